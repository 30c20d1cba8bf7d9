/- Part 24 of 36 of a proof: Sto2, Sto3, Lck, BGet1, Get1, Get2, At1 -/
import Derived.Test.YtcoengihaobddaaGreatDoorJb23
import Derived.Conc.RwLib
import Derived.Conc.MuLone
import Derived.Defers
set_option maxHeartbeats 8000000
set_option linter.unusedVariables false
set_option linter.unusedSimpArgs false
set_option maxRecDepth 8000
namespace Go.Proofs.YtcoengihaobddaaGreatDoor
open Go.ChangeShapes Go.WideShapes Go.ChangeAt Go.RowKit disk ref
namespace prog
open keys (zh zd zx zq)
attribute [local go_sem] Oper.semAt_some
def xZ:Option En->List Value
 |some x=>qr x
 |none=>qx
structure ZV (w1:World) (bd:Nat) (S:Nat->Prop) (D:Dk) (r:Int) (pre:List En) (Q:Nat->Prop) (A:World):Prop where
 pre:pre=[]
 q:∀k,¬Q k
 disk:zg A bd S {D with reads:=r}
 kept:za (λk=>k=bd\/w1.heap.size<=k) w1 A
 rd:D.reads+1<=r
structure GH (w1:World) (bd:Nat) (S:Nat->Prop) (D:Dk) (b4 b5:Nat) (o:Option En) (c:Code) (r:Int) (A:World):Prop where
 c:c=.ret
 is:∃x,o=some x/\A.heap[b4]? =some (.cells (qr x).toArray 109 (0,0))/\A.heap[b5]? =some (.cells #[.bool true] 4 (0,0))
 disk:zg A bd S {D with reads:=r}
 kept:za (λk=>k=bd\/k=b4\/k=b5\/w1.heap.size<=k) w1 A
 rd:D.reads+1<=r/\r<=D.reads+14
theorem ZV.by{b:World}{bd:Nat}{S:Nat->Prop}{D:Dk}{r a:Int}{pre:List En}{Q j:Nat->Prop}{A B:World}(h:ZV b bd S D r pre Q A)(f:za j A B)(c:∀k,j k->k=bd\/b.heap.size<=k)(d:zg B bd S {D with reads:=a })(g:r<=a):ZV b bd S D a pre Q B:=
 ⟨h.pre,h.q,d,h.kept.trans f (λi e=>.inl (c i e)),lC h.rd g⟩
theorem gY{P:Program}{fn:Func}{p u:Tmp}{b k:TypeId}(h:fn.results=#[.cell p b,.cell u k])(tmps:Array Value)(w:World)(g e:Nat)(t s:TypeId)(a:Array Value)(f x:Nat×Nat)(d y:TypeDesc)(v:Value)
 (m:tmps.getD p undef=.pointer (some ⟨g,0,none⟩)) (l:w.heap[g]? =some (.cells a t f))
 (r:P.underlying b=some d) (o:(match d with|.struct _|.array _ _=>true|_=>false)=true) (q:(P.info? b).map (·.size)=some a.size)
 (i:tmps.getD u undef=.pointer (some ⟨e,0,none⟩)) (n:(loadVar k ⟨e,0,none⟩).run P w=.ok v w):
 (results fn tmps).run P w=.ok (.tuple #[.agg a,v]) w:=by
 have j:tmps[p]?.getD undef=.pointer (some ⟨g,0,none⟩):=by simpa using m
 have c:tmps[u]?.getD undef=.pointer (some ⟨e,0,none⟩):=by simpa using i
 simp [results,h,j,c,asAddr,run_loadVar_row w g t b a f d l r o q,n]
theorem gZ(w:World)(g:Nat)(b:Bool)(h:w.heap[g]? =some (.cells #[.bool b] 4 (0,0))):(loadVar 4 ⟨g,0,none⟩).run Tryz.prog w=.ok (.bool b) w:=by
 have a:w.cell? ⟨g,0,none⟩=some (.bool b):=cR h rfl;simp [loadVar,isAgg,go_sem,a]
theorem Zf(w b A:World)(bs bd:Nat)(S:Nat->Prop)(D:Dk)(g:Option En)(r:Int)(a:Act)(B:bd<w.heap.size)(C:w.heap.size+3<=b.heap.size)(o:za (λi=>i=bd) w b)
 (p:A.heap[w.heap.size+1]? =some (.cells (xZ g).toArray 109 (0,0))) (n:A.heap[w.heap.size+2]? =some (.cells #[.bool g.isSome] 4 (0,0))) (t:zg A bd S {D with reads:=r }) (v:∀j,S j->j<w.heap.size) (x:za (λk=>k=bd\/k=w.heap.size+1\/k=w.heap.size+2\/b.heap.size<=k) b A) (l:D.reads<=r/\r<=D.reads+14) (s:A.heap[b.heap.size]? =some (.deferred (some [])))
 (u:a.defers=[{target:=.collected b.heap.size,args:=#[] }]) (y:a.tmps.getD 4 undef=.pointer (some ⟨w.heap.size+1,0,none⟩)) (z:a.tmps.getD 5 undef=.pointer (some ⟨w.heap.size+2,0,none⟩)):
 Ye Tryz.prog Tryz.f66 (λe w'=>e=.returned (.tuple #[.agg (xZ g).toArray,.bool g.isSome])/\(∃r:Int,D.reads<=r/\r<=D.reads+14/\zg w' bd S {D with reads:=r })/\za (λi=>i=bd) w w') .ret a A:=by
 have c:za (λk=>k=b.heap.size) A (A.putObj b.heap.size (.deferred none)):=za.putObj _ _ _ rfl;have q:=(c.block _ (lT p) (by omega)).trans p;have m:=(c.block _ (lT n) (by omega)).trans n;have f:(xZ g).toArray.size=5:=by cases g<;>rfl
 refine jh u s (gY Tryz.results66 _ _ (w.heap.size+1) (w.heap.size+2) 109 4 _ (0,0) (0,0) _ (.int .i64) _ y q Tryz.underlying109 rfl (by rw [f];kernel_rfl) z (gZ _ _ _ m)) ⟨rfl,⟨r,l.1,l.2,t.kept c (λj d e=>by have:=v j d;omega)⟩,?_⟩;exact(o.trans x (λj d=>by rcases d with h|h|h|h;exact .inl h;exact .inr (by omega);exact .inr (by omega);exact .inr (by omega))).trans c (λj d=>.inr (by omega))
theorem fa(w:World)(bs bd:Nat)(S:Nat->Prop)(D:Dk)(k:Int)(ak:zu w bs k (some bd))(E:zg w bd S D)(aY:¬S bs)(ar:0<=D.reads)(bf:D.reads<=4611686018427360000)(v n:Nat)(ap:qT (D.look 1) v n)(p:Pl)(x:List En)(U:List Nat)(hF:qY (λj=>D.look (j:Nat)) v x U)(az:U.length<=979)(hbs:∀j∈U,21<=j):
 Calls Tryz.prog 66 #[.pointer (some ⟨bs,0,none⟩),.agg #[.string p.key,.int .i64 p.num]] w λe w'=>e=.returned (.tuple #[.agg (xZ (yP p x).head?).toArray,.bool (yP p x).head?.isSome])/\(∃r:Int,D.reads<=r/\r<=D.reads+14/\zg w' bd S {D with reads:=r })/\za (λi=>i=bd) w w':=by
 have a2:Hid _:=ak;have aO:Hid (zg w bd S D):=E;have a3:Hid _:=ap;have aL:Hid _:=hF;have an:Hid _:=hbs;have hbs:=ak.lt;have ad:=E.lt bd E.bdS;have H:Hid _:=E.lt;clear ak E ap hF hbs;refine yz Tryz.func66 rfl ?_;simp only [Tryz.ntmps66,aq,ae,hO,Nat.reduceAdd,Nat.reduceSub,iN,iO,i5,iR,aK,aT];go_wp2_with fail;obtain⟨aR,aE,aD,k3,bi⟩:=vG w (.cells #[.string p.key,.int .i64 p.num] 107) (.cells #[.string ⟨#[]⟩,.int .i64 0,.bool false,.int .i64 0,.int .i64 0] 109) (.cells #[.bool false] 4);have ax:Hid _:=aE;have aB:Hid _:=aD;have R:Hid _:=k3;clear aR aE aD k3;generalize (((w.alloc (.cells #[.string p.key,.int .i64 p.num] 107)).alloc (.cells #[.string ⟨#[]⟩,.int .i64 0,.bool false,.int .i64 0,.int .i64 0] 109)).alloc (.cells #[.bool false] 4))=bk at*;refine(jc bk bs bd S D k (a2.out.kept R.out id) (aO.out.kept R.out nF) aY ar (by omega) v n a3.out p).mono ?_;rintro e q ⟨al,ah,aj,rfl,N,ba,af,F⟩;have aG:Hid _:=N;have ag:Hid (zg q bd S {D with reads:=D.reads+1 }):=af;have au:Hid _:=F;have aM:=F.size;have Y:Hid (q.heap[w.heap.size+1]? =_):=(F.block _ (by omega) (by omega)).trans ax.out;have ab:Hid (q.heap[w.heap.size+2]? =_):=(F.block _ (by omega) (by omega)).trans aB.out;clear N af F;go_wp2_with fail;have W:Hid (∀j,S j->j<q.heap.size):=ag.out.lt;have P:Hid _:=(R.out.mono fE).trans au.out iL
 refine kf (α:=En) (gf:= 190) (lb:=#[.pointer (some ⟨al,0,none⟩),.pointer (some ⟨ah,0,none⟩),.pointer (some ⟨aj,0,none⟩)]) rfl (enters_of Tryz.func190 (by kernel_rfl) rfl)
  (λa0 d bc=>Yj a0 bd S D al ah aj v p (aG.out.kept d id id id) x U aL.out az an.out (by omega) (D.reads+1) (by omega) (by omega))
  (λk d=>by rw [d];omega) (λ_=>rfl)
  (ZV q bd S D) (λc r pre A=>GH q bd S D (w.heap.size+1) (w.heap.size+2) (yP p x).head? c r A)
  (λr pre Q A h=>⟨h.disk,λk d=>(h.q k d).elim⟩)
  (λr bg pre Q A B h aC d f=>h.by d (λk d=>.inl d) f aC)
  (λr pre Q A B h d=>h.by d (λk d=>.inr (by omega)) (h.disk.kept d (λj o ai=>by have:=W.out j o;omega)) (eb _))
  (λc r pre A B h d=>⟨h.c,by
   obtain⟨m,I,h2,T⟩:=h.is
   exact⟨m,I,(d.block _ (lT h2) (by omega)).trans h2,(d.block _ (lT T) (by omega)).trans T⟩,h.disk.kept d (λj o ai=>by have:=W.out j o;omega),h.kept.trans d (λi f=>.inl (.inr (.inr (.inr (by omega))))),h.rd⟩)
  ⟨rfl,λ_ h=>h,ag.out,za.refl _ _,eb _⟩
  (λm aA A=>∃s,q.heap.size+1<s/\A.heap[s]? =some (.cells (qr m).toArray 109 (0,0))/\aA={tmps:=#[.pointer (some ⟨bs,0,none⟩),.agg #[.string p.key,.int .i64 p.num],undef,.pointer (some ⟨w.heap.size,0,none⟩),.pointer (some ⟨w.heap.size+1,0,none⟩),.pointer (some ⟨w.heap.size+1+1,0,none⟩),.pointer (some ⟨s,0,none⟩),.pointer (some ⟨bs,0,none⟩),.agg #[.string p.key,.int .i64 p.num],.func (.func 190) #[] #[.pointer (some ⟨al,0,none⟩),.pointer (some ⟨ah,0,none⟩),.pointer (some ⟨aj,0,none⟩)],.agg (qr m).toArray,undef,undef],defers:=[] })
  (λm a A B h d=>by
   obtain⟨s,I,h2,T⟩:=h
   exact⟨s,I,(d.block _ (lT h2) (by omega)).trans h2,T⟩)
  (λr pre m A B h _=>h) ?assign ?body ?done ?stop
 case assign=>
  intro l r pre m Q A bp f K ay G;dsimp only [qr];gi_wp2;exact G _ _ (za.alloc _ _ _) (f.by (za.alloc (λ_=>False) _ _) (λ_ h=>h.elim) (f.disk.kept (za.alloc (λ_=>False) _ _) nF) (eb _)) K ⟨A.heap.size,by omega,ac A _,rfl⟩
 case body=>
  rintro l r pre m Q aA A f K ⟨s,be,X,rfl⟩ ay;have y:Hid _:=f;have aZ:Hid _:=K;have u:Hid _:=X;have b:Hid (A.heap[w.heap.size+1]? =_):=(f.kept.block _ (by omega) (by omega)).trans Y.out;have t:Hid (A.heap[w.heap.size+2]? =_):=(f.kept.block _ (by omega) (by omega)).trans ab.out
  have aH:Hid ((yP p x).head? =some m):=by have I:=K.pre;rw [f.pre] at I;obtain⟨z,a8⟩:=I;show (yP p x).head? =some m;rw [<-a8];rfl
  clear f K X;have bn:A.cell? ⟨s,0,none⟩=some (.string m.pl.key):=cR u.out rfl;have bm:A.cell? ⟨s,1,none⟩=some (.int .i64 m.pl.num):=cR u.out rfl;have bo:A.cell? ⟨s,2,none⟩=some (.bool m.mark):=cR u.out rfl;have bj:A.cell? ⟨s,3,none⟩=some (.int .i64 (m.size:Int)):=cR u.out rfl;have bl:A.cell? ⟨s,4,none⟩=some (.int .i64 (m.at_:Int)):=cR u.out rfl;have a7:A.cell? ⟨w.heap.size+1,0,none⟩=some (.string ⟨#[]⟩):=cR b.out rfl;have aV:A.cell? ⟨w.heap.size+1,1,none⟩=some (.int .i64 0):=cR b.out rfl;have aW:A.cell? ⟨w.heap.size+1,2,none⟩=some (.bool false):=cR b.out rfl;have a4:A.cell? ⟨w.heap.size+1,3,none⟩=some (.int .i64 0):=cR b.out rfl;have aQ:A.cell? ⟨w.heap.size+1,4,none⟩=some (.int .i64 0):=cR b.out rfl;have aP:=aa A (w.heap.size+1) 0 _ _ b.out;have aI:=aa A (w.heap.size+1) 1 _ _ b.out;have a5:=aa A (w.heap.size+1) 2 _ _ b.out;have a9:=aa A (w.heap.size+1) 3 _ _ b.out;have aJ:=aa A (w.heap.size+1) 4 _ _ b.out;have aU:A.cell? ⟨w.heap.size+1+1,0,none⟩=some (.bool false):=cR t.out rfl;have aS:A.frozen? ⟨w.heap.size+1+1,0,none⟩=false:=aa A (w.heap.size+2) 0 _ _ t.out;dsimp only [qr];gi_wp2;obtain⟨M,J⟩:=kF A (w.heap.size+1) 109 _ _ _ _ _ (.string m.pl.key) (.int .i64 m.pl.num) (.bool m.mark) (.int .i64 (m.size:Int)) (.int .i64 (m.at_:Int)) b.out;have O:=(J.block (w.heap.size+2) (by omega) (by omega)).trans t.out;have C:=za.setCell (S:=λj=>j=w.heap.size+2) (((((A.setCell ⟨w.heap.size+1,0,none⟩ (.string m.pl.key)).setCell ⟨w.heap.size+1,1,none⟩ (.int .i64 m.pl.num)).setCell ⟨w.heap.size+1,2,none⟩ (.bool m.mark)).setCell ⟨w.heap.size+1,3,none⟩ (.int .i64 (m.size:Int))).setCell ⟨w.heap.size+1,4,none⟩ (.int .i64 (m.at_:Int))) ⟨w.heap.size+2,0,none⟩ (.bool true) rfl;have g:=(J.mono (S':=λj=>j=w.heap.size+1\/j=w.heap.size+2) iL).trans C (λ_ h=>.inl (.inr h));refine⟨g.mono (λj o=>.inl (by omega)),rfl,⟨m,aH.out,?_,?_⟩,y.out.disk.kept g (λj o ai=>by have:=H.out j o;omega),(y.out.kept.mono (S':=λk=>k=bd\/k=w.heap.size+1\/k=w.heap.size+2\/q.heap.size<=k) (λj o=>by omega)).trans g (λj o=>.inl (by omega)),y.out.rd,?_⟩;.exact(C.block _ (by simp [World.setCell];omega) (by omega)).trans M
  .exact heap_setCell_same _ (w.heap.size+2) 0 _ _ _ O
  .have:=aZ.out.first y.out.pre;omega
 case done=>
  rintro a1 r bh Q A L f rfl G;have Z:yP p x=[]:=by rw [<-L.1];exact f.pre
  have u:Hid _:=Z;have y:Hid _:=f;have bb:=L.2.2 f.pre;have V:Hid _:=G;have b:Hid (A.heap[w.heap.size+1]? =_):=(f.kept.block _ (by omega) (by omega)).trans Y.out;have t:Hid (A.heap[w.heap.size+2]? =_):=(f.kept.block _ (by omega) (by omega)).trans ab.out;have aX:=f.kept.size;clear Z f L G;have a7:A.cell? ⟨w.heap.size+1,0,none⟩=some (.string ⟨#[]⟩):=cR b.out rfl;have aV:A.cell? ⟨w.heap.size+1,1,none⟩=some (.int .i64 0):=cR b.out rfl;have aW:A.cell? ⟨w.heap.size+1,2,none⟩=some (.bool false):=cR b.out rfl;have a4:A.cell? ⟨w.heap.size+1,3,none⟩=some (.int .i64 0):=cR b.out rfl;have aQ:A.cell? ⟨w.heap.size+1,4,none⟩=some (.int .i64 0):=cR b.out rfl;have aP:=aa A (w.heap.size+1) 0 _ _ b.out;have aI:=aa A (w.heap.size+1) 1 _ _ b.out;have a5:=aa A (w.heap.size+1) 2 _ _ b.out;have a9:=aa A (w.heap.size+1) 3 _ _ b.out;have aJ:=aa A (w.heap.size+1) 4 _ _ b.out;have aU:A.cell? ⟨w.heap.size+1+1,0,none⟩=some (.bool false):=cR t.out rfl;have aS:A.frozen? ⟨w.heap.size+1+1,0,none⟩=false:=aa A (w.heap.size+2) 0 _ _ t.out;dsimp only;go_wp2;obtain⟨M,J⟩:=kF A (w.heap.size+1) 109 _ _ _ _ _ (.string ⟨#[]⟩) (.int .i64 0) (.bool false) (.int .i64 0) (.int .i64 0) b.out;have O:=(J.block (w.heap.size+2) (by omega) (by omega)).trans t.out;have C:=za.setCell (S:=λj=>j=w.heap.size+2) (((((A.setCell ⟨w.heap.size+1,0,none⟩ (.string ⟨#[]⟩)).setCell ⟨w.heap.size+1,1,none⟩ (.int .i64 0)).setCell ⟨w.heap.size+1,2,none⟩ (.bool false)).setCell ⟨w.heap.size+1,3,none⟩ (.int .i64 0)).setCell ⟨w.heap.size+1,4,none⟩ (.int .i64 0)) ⟨w.heap.size+2,0,none⟩ (.bool false) rfl;have g:=(J.mono (S':=λj=>j=w.heap.size+1\/j=w.heap.size+2) iL).trans C (λ_ h=>.inl (.inr h));rw [u.out];refine Zf w q _ bs bd S D none r _ ad (by omega) P.out ?_ ?_ (y.out.disk.kept g (λj o ai=>by have:=H.out j o;omega)) H.out ((y.out.kept.mono (S':=λk=>k=bd\/k=w.heap.size+1\/k=w.heap.size+2\/q.heap.size<=k) (λj o=>by omega)).trans g (λj o=>.inl (by omega))) ⟨by have:=y.out.rd;omega,by omega⟩ ((g.block _ (lT V.out) (by omega)).trans V.out) rfl rfl rfl;.exact(C.block _ (by simp [World.setCell];omega) (by omega)).trans M
  .exact heap_setCell_same _ (w.heap.size+2) 0 _ _ _ O
 case stop=>
  rintro a1 c r pre A L f rfl G;obtain⟨rfl,⟨m,am,aF,aw⟩,E,d,aC⟩:=f;have u:Hid _:=am;have aN:Hid _:=aF;have a6:Hid _:=aw;have ao:Hid _:=E;have av:Hid _:=d;have V:Hid _:=G;clear am aF aw E d G L;dsimp only;go_wp2;rw [u.out];exact Zf w q A bs bd S D (some m) r _ ad (by omega) P.out aN.out a6.out ao.out H.out av.out ⟨by omega,by omega⟩ V.out rfl rfl rfl
end prog
namespace prog
open keys (zh zd zx zq)
def xT(key:ByteArray):Option En->Bool
 |some x=>decide (x.pl.key=key)&& !x.mark
 |none=>false
theorem xj(w:World)(bs bd:Nat)(S:Nat->Prop)(D:Dk)(k:Int)(V:zu w bs k (some bd))(u:zg w bd S D)(al:¬S bs)(ag:0<=D.reads)(af:D.reads<=4611686018427360000)(x n:Nat)(F:qT (D.look 1) x n)(c:ByteArray)(J:List En)(G:List Nat)(hF:qY (λj=>D.look (j:Nat)) x J G)(Y:G.length<=979)(hbs:∀j∈G,21<=j)(t:Option En)(R:(yP ⟨c,9223372036854775807⟩ J).head? =t):
 Calls Tryz.prog 50 #[.pointer (some ⟨bs,0,none⟩),.string c] w λe w'=>e=.returned (.tuple #[.agg (xZ t).toArray,.bool (xT c t)])/\(∃r:Int,D.reads<=r/\r<=D.reads+14/\zg w' bd S {D with reads:=r })/\za (λi=>i=bd) w w':=by
 have am:=u.lt bd u.bdS;have X:Hid (∀j,S j->j<w.heap.size):=u.lt;have E:Hid (za (λ_=>False) w (w.alloc (.cells #[.string ⟨#[]⟩,.int .i64 0,.bool false,.int .i64 0,.int .i64 0] 109))):=za.alloc _ _ _;have Z:Hid ((w.alloc (.cells #[.string ⟨#[]⟩,.int .i64 0,.bool false,.int .i64 0,.int .i64 0] 109)).heap[w.heap.size]? =some (.cells #[.string ⟨#[]⟩,.int .i64 0,.bool false,.int .i64 0,.int .i64 0] 109 (0,0))):=ac w _;have ap:(w.alloc (.cells #[.string ⟨#[]⟩,.int .i64 0,.bool false,.int .i64 0,.int .i64 0] 109)).heap.size=w.heap.size+1:=by simp
 have O:Hid (Calls Tryz.prog 66 #[.pointer (some ⟨bs,0,none⟩),.agg #[.string c,.int .i64 9223372036854775807]] (w.alloc (.cells #[.string ⟨#[]⟩,.int .i64 0,.bool false,.int .i64 0,.int .i64 0] 109)) λe w'=>e=.returned (.tuple #[.agg (xZ t).toArray,.bool t.isSome])/\(∃r:Int,D.reads<=r/\r<=D.reads+14/\zg w' bd S {D with reads:=r })/\za (λi=>i=bd) (w.alloc (.cells #[.string ⟨#[]⟩,.int .i64 0,.bool false,.int .i64 0,.int .i64 0] 109)) w'):=by have:=fa (w.alloc (.cells #[.string ⟨#[]⟩,.int .i64 0,.bool false,.int .i64 0,.int .i64 0] 109)) bs bd S D k (V.kept E id) (u.kept E nF) al ag af x n F ⟨c,9223372036854775807⟩ J G hF Y hbs;rw [R] at this;exact this
 clear V u F hF hbs R;generalize W:(w.alloc (.cells #[.string ⟨#[]⟩,.int .i64 0,.bool false,.int .i64 0,.int .i64 0] 109))=au at*;go_enter Tryz.func50,Tryz.ntmps50;go_wp2_with fail;clear W;refine O.mono ?_;rintro e d ⟨rfl,⟨N,T,Q,I⟩,z⟩;have ae:Hid (zg d bd S {D with reads:=N }):=I;have ah:=z.size;have ad:Hid (d.heap[w.heap.size]? =_):=(z.block _ (by omega) (by omega)).trans Z.out;change Hid _ at z;clear I O
 obtain⟨h,o,m,p,q,L,H⟩:∃(h:ByteArray) (o:Int) (m:Bool) (p q:Int),xZ t=[.string h,.int .i64 o,.bool m,.int .i64 p,.int .i64 q]/\xT c t=(t.isSome&&(decide (h=c)&& !m)):=by
  cases t with
  |none=>exact⟨_,_,_,_,_,rfl,rfl⟩
  |some aJ=>exact⟨_,_,_,_,_,rfl,rfl⟩
 have B:Hid (xT c t=(t.isSome&&(decide (h=c)&& !m))):=H;rw [L];change Hid _ at L;clear H;generalize aG:t.isSome=f at*;have s:Hid ((d.alloc (.cells #[.string h,.int .i64 o,.bool m,.int .i64 p,.int .i64 q] 109)).heap[d.heap.size]? =some (.cells #[.string h,.int .i64 o,.bool m,.int .i64 p,.int .i64 q] 109 (0,0))):=ac d _;have C:Hid (za (λ_=>False) d (d.alloc (.cells #[.string h,.int .i64 o,.bool m,.int .i64 p,.int .i64 q] 109))):=za.alloc _ _ _;have an:(d.alloc (.cells #[.string h,.int .i64 o,.bool m,.int .i64 p,.int .i64 q] 109)).heap.size=d.heap.size+1:=by simp
 go_wp2_with fail;generalize (d.alloc (.cells #[.string h,.int .i64 o,.bool m,.int .i64 p,.int .i64 q] 109))=g at*;have l:Hid (g.heap[w.heap.size]? =_):=(C.block _ (by omega) id).trans ad.out;have aC:g.cell? ⟨d.heap.size,0,none⟩=some (.string h):=cR s.out rfl;have aA:g.cell? ⟨d.heap.size,1,none⟩=some (.int .i64 o):=cR s.out rfl;have aD:g.cell? ⟨d.heap.size,2,none⟩=some (.bool m):=cR s.out rfl;have ax:g.cell? ⟨d.heap.size,3,none⟩=some (.int .i64 p):=cR s.out rfl;have ay:g.cell? ⟨d.heap.size,4,none⟩=some (.int .i64 q):=cR s.out rfl;have aI:g.cell? ⟨w.heap.size,0,none⟩=some (.string ⟨#[]⟩):=cR l.out rfl;have az:g.cell? ⟨w.heap.size,1,none⟩=some (.int .i64 0):=cR l.out rfl;have aB:g.cell? ⟨w.heap.size,2,none⟩=some (.bool false):=cR l.out rfl;have aF:g.cell? ⟨w.heap.size,3,none⟩=some (.int .i64 0):=cR l.out rfl;have aw:g.cell? ⟨w.heap.size,4,none⟩=some (.int .i64 0):=cR l.out rfl;have av:=aa g w.heap.size 0 _ _ l.out;have aq:=aa g w.heap.size 1 _ _ l.out;have aH:=aa g w.heap.size 2 _ _ l.out;have aE:=aa g w.heap.size 3 _ _ l.out;have ar:=aa g w.heap.size 4 _ _ l.out;have ao:¬w.heap.size=d.heap.size:=by omega
 have y:∀(K:World),K=(((((g.drew.setCell ⟨w.heap.size,0,none⟩ (.string h)).setCell ⟨w.heap.size,1,none⟩ (.int .i64 o)).setCell ⟨w.heap.size,2,none⟩ (.bool m)).setCell ⟨w.heap.size,3,none⟩ (.int .i64 p)).setCell ⟨w.heap.size,4,none⟩ (.int .i64 q))->∀(a:Act) (b:Bool),a.defers=[]->a.tmps.getD 4 undef=.pointer (some ⟨w.heap.size,0,none⟩)->a.tmps.getD 5 undef=.bool b->xT c t=b->
  bodyPost Tryz.prog Tryz.f50 (λe w'=>e=.returned (.tuple #[.agg (xZ t).toArray,.bool (xT c t)])/\(∃r:Int,D.reads<=r/\r<=D.reads+14/\zg w' bd S {D with reads:=r })/\za (λi=>i=bd) w w') .ret a K:=by
  rintro K rfl a b u ak aj F;obtain⟨ai,P⟩:=kF g.drew w.heap.size 109 _ _ _ _ _ (.string h) (.int .i64 o) (.bool m) (.int .i64 p) (.int .i64 q) (((za.drew (λ_=>False) g).block _ (by omega) id).trans l);refine bodyPost_ret (v:=.tuple #[.agg (xZ t).toArray,.bool (xT c t)]) ?_ u ⟨rfl,⟨N,T,Q,?_⟩,?_⟩
  .have:=qJ Tryz.results50 a.tmps _ w.heap.size 109 _ (0,0) _ ak ai Tryz.underlying109 rfl (by kernel_rfl);rw [aj] at this;rw [L.out,F];exact this
  .exact((ae.kept C nF).kept (za.drew (λ_=>False) g) nF).kept P (λj ab e=>by have:=X.out j ab;omega)
  .exact(((((E.mono fE).trans z iL).trans C fE).trans (za.drew (λ_=>False) g) fE)).trans P (λj ab=>.inr (by omega))
 change Hid _ at y
 cases f with
 |false=>
  go_region
  all_goals
   go_wp2;exact y _ rfl _ false rfl rfl rfl (by rw [B.out];rfl)
 |true=>
  by_cases A:h.toList=c.toList
  .have M:Hid (h=c):=qN.1 A;have U:(h.toList==c.toList)=true:=by simp [A]
   clear A;go_region_held3 (λw'=>w'.cell? ⟨d.heap.size,0,none⟩=some (.string h)/\w'.cell? ⟨d.heap.size,1,none⟩=some (.int .i64 o)/\w'.cell? ⟨d.heap.size,2,none⟩=some (.bool m)/\w'.cell? ⟨d.heap.size,3,none⟩=some (.int .i64 p)/\w'.cell? ⟨d.heap.size,4,none⟩=some (.int .i64 q)) (go_keep) (fail)
   all_goals
    go_wp2;exact y _ rfl _ (!m) rfl rfl rfl (by rw [B.out,M.out];simp)
  .have M:Hid (¬h=c):=mt qN.2 A;have U:(h.toList==c.toList)=false:=by simpa using A
   clear A
   go_region
   all_goals
    go_wp2;exact y _ rfl _ false rfl rfl rfl (by rw [B.out];simp [M.out])
end prog
namespace prog
open Go.MuLone
abbrev Tryz.muLink:Go.Conc.Locks.MuLink:={lock:= 47,unlock:= 48,ilock:= 69,iunlock:= 70,lockSlow:= 120,unlockSlow:= 123,disable:= 116,enable:= 118,acquire:= 119,relMerge:= 121,cas32:= 117,add32:= 122,tMutex:= 102,tIMutex:= 100,tPMutex:= 137,tPIMutex:= 185,tPI32:= 187,tUP:= 189,tNoCopy:= 97,tU32:= 98}
theorem Tryz.muLib:Go.Conc.Locks.MuLib Tryz.prog Tryz.muLink:=
 ⟨Tryz.func47,Tryz.func48,Tryz.func69,Tryz.func70,Tryz.func116,Tryz.func118,Tryz.func119,Tryz.func121,Tryz.func117,Tryz.func122,Tryz.underlying100,Tryz.runUnderlying100,Tryz.sizeOf100,Tryz.isAgg100,Tryz.zeroValue100,Tryz.underlying102,Tryz.runUnderlying102,Tryz.sizeOf102,Tryz.isAgg102,Tryz.zeroValue102,Tryz.underlying137,Tryz.runUnderlying137,Tryz.sizeOf137,Tryz.isAgg137,Tryz.zeroValue137,Tryz.underlying185,Tryz.runUnderlying185,Tryz.sizeOf185,Tryz.isAgg185,Tryz.zeroValue185,Tryz.underlying187,Tryz.runUnderlying187,Tryz.sizeOf187,Tryz.isAgg187,Tryz.zeroValue187,Tryz.underlying189,Tryz.runUnderlying189,Tryz.sizeOf189,Tryz.isAgg189,Tryz.zeroValue189,Tryz.underlying97,Tryz.runUnderlying97,Tryz.sizeOf97,Tryz.isAgg97,Tryz.zeroValue97,Tryz.underlying21,Tryz.runUnderlying21,Tryz.sizeOf21,Tryz.isAgg21,Tryz.zeroValue21,(by kernel_rfl)⟩
end prog
namespace prog
open keys (zh zd zx zq)
attribute [local go_sem] Oper.semAt_some
variable {pre:List BP}
theorem Zg(w:World)(T:TypeId)(a:Addr)(b:Nat):Calls Tryz.prog 72 #[.iface T (.pointer (some a)),.int .i64 b] w λe w'=>
 e=.returned (.func (.func 124) #[] #[.pointer (some ⟨w.heap.size+1,0,none⟩),.pointer (some ⟨w.heap.size,0,none⟩)])/\w'.heap[w.heap.size+1]? =some (.cells #[.int .i64 (b:Int)] 3 (0,0))/\w'.heap[w.heap.size]? =some (.cells #[.iface T (.pointer (some a))] 193 (0,0))/\za (λ_=>False) w w'/\w'.heap.size=w.heap.size+2:=by
 go_enter Tryz.func72,Tryz.ntmps72;go_wp2;go_ret;exact⟨rfl,eF w _ _,((za.alloc (λ_=>False) _ _).block w.heap.size (by simp) id).trans (ac w _),za.alloc2 _ _ _,by simp⟩
def cA(pre:List BP):List UInt8:=(pre.map λx=>x.p.l).flatten
theorem Yk(pre:List BP)(a:BP):cA (pre++[a])=cA pre++a.p.l:=by simp [cA]
theorem U2{ps:List zv}{a:BP}(h:(pre.map BP.p++[a.p])<+:ps):(cA pre).length+a.p.l.length<=((ps.map zv.l).flatten).length:=by
 obtain⟨z,rfl⟩:=h;have e:cA pre=((pre.map BP.p).map zv.l).flatten:=by simp [cA,ln];rfl
 rw [e];simp only [eh,eV,aO,ig,aU,lG,aM,ag];omega
theorem U3{ps:List zv}(h:pre.map BP.p=ps):cA pre=(ps.map zv.l).flatten:=by
 rw [<-h,ln];rfl
structure Jy (w1:World) (bd:Nat) (S:Nat->Prop) (D:Dk) (b2 b5 g cap:Nat) (r:Int) (pre:List BP) (Q:Nat->Prop) (A:World):Prop where
 q:∀k,¬Q k
 disk:zg A bd S {D with reads:=r}
 rd:D.reads<=r
 box:A.heap[b2]? =some (.cells #[.iface 29 (.pointer (some ⟨bd,0,none⟩))] 193 (0,0))
 sl:A.heap[b5]? =some (.cells #[.slice (some ⟨g,0,none⟩) (cA pre).length cap] 35 (0,0))
 row:A.ownsRow 0 5 1 (.slice (some ⟨g,0,none⟩) (cA pre).length cap) (cA pre).length ((cA pre).map qy)
 kept:za (λk=>k=bd\/k=b5\/k=g\/w1.heap.size<=k) w1 A
theorem Jy.by{a:World}{bd:Nat}{S:Nat->Prop}{D:Dk}{c e g l:Nat}{r m:Int}{Q t:Nat->Prop}{A B:World}(h:Jy a bd S D c e g l r pre Q A)(f:za t A B)(d:∀k,t k->k=bd\/a.heap.size<=k)(o:zg B bd S {D with reads:=m })(q:r<=m)(u:c<a.heap.size/\c≠bd)(s:e<a.heap.size/\e≠bd)(v:g<a.heap.size/\g≠bd):Jy a bd S D c e g l m pre Q B:=
 ⟨h.q,o,lC h.rd q,(f.block _ (lT h.box) (λb=>by have:=d _ b;omega)).trans h.box,(f.block _ (lT h.sl) (λb=>by have:=d _ b;omega)).trans h.sl,
  f.owns h.row (λj n b=>by simp [Value.ownBlock] at n;have:=d _ b;omega),h.kept.trans f (λi p=>.inl (by have:=d i p;omega))⟩
theorem Yl{A:World}{g next:Nat}{l:List UInt8}(h:qP A g (qp next l)):∀j u,(l.map qy)[j]? =some u->A.cell? (Addr.add ⟨g,4,none⟩ j)=some u:=by
 intro j u b;have a:j<l.length:=by have:=(et.1 b).1;simpa using this
 have c:(qp next l).bytes.drop 4=l++List.replicate (124-(qp next l).items.length*zk (qp next l).kind) 0:=by rw [Pg.behind];congr 1;exact gL l
 have f:=h.ok.len
 have d:4+j<(qp next l).bytes.length:=by have:=congrArg List.length c;simp at this;omega
 have:=h.bs.cell (4+j) d
 have k:(qp next l).bytes[4+j]=l[j]:=by
  have e:((qp next l).bytes.drop 4)[j]? =some l[j]:=by rw [c,io a,aH a]
  rw [lO,aH d] at e;simpa using e
 rw [k] at this;have i:Addr.add ⟨g,4,none⟩ j=⟨g,4+j,none⟩:=eO _ _ _;rw [i,this];rw [l0,aH a] at b;simpa [qy] using b
theorem Tryz.infoU8b:(Tryz.prog.info? 5).map (λi=>(i.zero,i.size,i.bytes))=some (some (.int .u8 0),1,1):=by kernel_rfl
theorem dE(w:World)(bs bd:Nat)(S:Nat->Prop)(D:Dk)(k:Int)(ax:zu w bs k (some bd))(J:zg w bd S D)(bf:¬S bs)(a6:0<=D.reads)(bb:D.reads<=4611686018427360000)(e:En)(ps:List zv)(E:yZ (λj=>D.look (j:Nat)) ps)(Z:(ps.map zv.at_).Nodup)(al:xo ps=e.at_)(l:List UInt8)(au:(ps.map zv.l).flatten=l)(y:l.length=e.size)(ba:e.size<=300)(aR:ps.length<=1000):
 Calls Tryz.prog 51 #[.pointer (some ⟨bs,0,none⟩),.agg (qr e).toArray] w λm w'=>(∃a H,m=.returned (.slice a l.length H)/\w'.ownsRow 0 5 1 (.slice a l.length H) l.length (l.map qy)/\∀j,(Value.slice a l.length H).ownBlock=some j->w.heap.size<=j)/\(∃r:Int,D.reads<=r/\r<=D.reads+ps.length/\zg w' bd S {D with reads:=r })/\za (λi=>i=bd) w w':=by
 have aZ:Hid (zg w bd S D):=J;have ac:=ax.c2;have hbs:=ax.lt;have a7:=J.lt bd J.bdS;have K:Hid _:=J.lt;change Hid _ at ax E Z au al;clear J;refine yz Tryz.func51 rfl ?_;simp only [Tryz.ntmps51,aq,ae,hO,Nat.reduceAdd,Nat.reduceSub,iN,iO,i5,iR,aK,aT];unfold qr;obtain⟨V,x,af,O,an⟩:=eZ Tryz.infoU8b
 obtain⟨u,am,aO⟩:∃u:Array Value,u.size=e.size*1/\∀t:World,(Instr.makeSlice 35 (.int .i64 0) (.int .i64 (e.size:Int))).run Tryz.prog t=.ok (.slice (some ⟨t.heap.size,0,none⟩) 0 e.size) (t.alloc (.cells u 5)):=by refine⟨_,size_madeCells (Value.int .u8 0).cells (e.size*1),λt=>?_⟩;have:=run_make (P:=Tryz.prog) t 35 5 V _ Tryz.underlying35 x af .i64 .i64 0 (e.size:Int) (by omega) (by omega) (by rw [an];omega) (by omega);rw [O] at this;simpa using this
 have W:Hid (Tryz.prog.info? 5=some V/\V.size=1):=⟨x,O⟩;clear x af O an;go_wp2_with fail;obtain⟨aw,aB,az,k3,aY⟩:=vG w (.cells #[.string e.pl.key,.int .i64 e.pl.num,.bool e.mark,.int .i64 (e.size:Int),.int .i64 (e.at_:Int)] 109) (.cells u 5) (.cells #[.slice (some ⟨w.heap.size+1,0,none⟩) 0 e.size] 35);change Hid _ at aw aB az k3 am;clear aO;generalize (((w.alloc (.cells #[.string e.pl.key,.int .i64 e.pl.num,.bool e.mark,.int .i64 (e.size:Int),.int .i64 (e.at_:Int)] 109)).alloc (.cells u 5)).alloc (.cells #[.slice (some ⟨w.heap.size+1,0,none⟩) 0 e.size] 35))=t at*;have ad:=(k3.cell (a:=⟨bs,2,none⟩) hbs id).trans ac;have ak:t.cell? ⟨w.heap.size,4,none⟩=some (.int .i64 (e.at_:Int)):=cR aw.out rfl;have aA:bs<t.heap.size:=by omega
 have av:w.heap.size<t.heap.size:=by omega
 clear ac;go_region_held3 (λw'=>w'.cell? ⟨bs,2,none⟩=some (.pointer (some ⟨bd,0,none⟩))/\w'.cell? ⟨w.heap.size,4,none⟩=some (.int .i64 (e.at_:Int))) (go_keep) ((go_at_call 72;refine(Zg _ 29 ⟨bd,0,none⟩ e.at_).mono ?_;rintro m n ⟨rfl,I,M,p,aS⟩;have aI:=(p.cell (a:=⟨bs,2,none⟩) aA id).trans ad;have aJ:=(p.cell (a:=⟨w.heap.size,4,none⟩) av id).trans ak;change Hid _ at I M p));have aQ:t.drew.heap.size=t.heap.size:=rfl;rw [aQ,aY] at I M aS;have Y:Hid (za (λ_=>False) w n):=(k3.trans (za.drew (λ_=>False) t) iL).trans p iL;have N:Hid _:=(za.drew (λ_=>False) t).trans p iL;have aU:Hid (zg n bd S D):=aZ.kept Y nF;have aE:Hid (n.heap[w.heap.size+2]? =_):=(N.block _ (by omega) id).trans az.out;have aL:Hid (n.ownsRow 0 5 1 (.slice (some ⟨w.heap.size+1,0,none⟩) 0 e.size) 0 []):=⟨by simp,.inr ⟨w.heap.size+1,e.size,u,rfl,aj _,(N.block _ (by omega) id).trans aB,by omega,by unfold maxLen;omega,am,by simp⟩⟩;clear ad ak aI aJ aw aB az;go_wp2_with fail;have aF:Hid _:=K.out
 have ay:Hid (∀T,za (λ_=>False) n T->T.heap.size=n.heap.size+2->vO Tryz.prog 124 #[.pointer (some ⟨w.heap.size+3+1,0,none⟩),.pointer (some ⟨w.heap.size+3,0,none⟩)] Ku (λk=>k=bd) (λr _ A=>zg A bd S {D with reads:=r}/\A.heap[w.heap.size+3]? =some (.cells #[.iface 29 (.pointer (some ⟨bd,0,none⟩))] 193 (0,0))/\D.reads<=r) (λr pre m A=>Js (n.heap.size+2) ps pre m A/\r<=D.reads+pre.length+1) (λr ar=>ar.map BP.p=ps/\r<=D.reads+ps.length) (λ_ _=>True) D.reads T):=λT b y=>by
  have:=Zc T 29 81 ⟨bd,0,none⟩ (gK _) (w.heap.size+3+1) (w.heap.size+3) ps (λj=>D.look (j:Nat)) E Z (λk=>k=bd) (λr _ A=>zg A bd S {D with reads:=r}/\A.heap[w.heap.size+3]? =some (.cells #[.iface 29 (.pointer (some ⟨bd,0,none⟩))] 193 (0,0))/\D.reads<=r) D.reads (λk b=>by rw [b];omega)
   (by rw [al.out];exact(b.block _ (by omega) id).trans I) (λr pre A h=>h.2.1)
   (λr pre A B h b=>⟨h.1.kept b nF,(b.block _ (lT h.2.1) id).trans h.2.1,h.2.2⟩)
   (λi f r pre A h a5 ab=>by
    refine(jk A bd S {D with reads:=r} h.1 _ (by have:=(E.ok _ (ai f)).at_;constructor<;>omega) (by show 0<=r;omega) (by show r<=_;omega)).mono ?_;rintro m bc ⟨rfl,a0,h2⟩
    exact⟨rfl,h2,r+1,by omega,by omega,a0,(h2.block _ (lT h.2.1) (by omega)).trans h.2.1,by omega⟩)
  rw [y] at this;exact this
 refine kf (α:=BP) (gf:= 124) (lb:=#[.pointer (some ⟨w.heap.size+3+1,0,none⟩),.pointer (some ⟨w.heap.size+3,0,none⟩)]) rfl (enters_of Tryz.func124 (by kernel_rfl) rfl) ay.out
  (λk b=>by rw [b];omega) (λ_=>rfl)
  (Jy n bd S D (w.heap.size+3) (w.heap.size+2) (w.heap.size+1) e.size) (λc r pre A=>False)
  (λr pre Q A h=>⟨⟨h.disk,h.box,h.rd⟩,λk b=>(h.q k b).elim⟩)
  (λr be pre Q A B h a4 b f=>h.by b (λk b=>.inl b) f.1 a4 (by omega) (by omega) (by omega))
  (λr pre Q A B h b=>h.by b (λk b=>.inr (by omega)) (h.disk.kept b (λj d aW=>by have:=aF.out j d;omega)) (eb _) (by omega) (by omega) (by omega))
  (λc r pre A B h b=>h)
  ⟨λ_ h=>h,aU,eb _,M,aE,aL,za.refl _ _⟩
  (λm aN A=>aN={tmps:=#[.pointer (some ⟨bs,0,none⟩),.agg #[.string e.pl.key,.int .i64 e.pl.num,.bool e.mark,.int .i64 (e.size:Int),.int .i64 (e.at_:Int)],undef,.pointer (some ⟨w.heap.size,0,none⟩),.slice none 0 0,.pointer (some ⟨w.heap.size+1+1,0,none⟩),undef,.slice (some ⟨m.g,4,none⟩) m.p.l.length 124,.pointer (some ⟨w.heap.size,3,none⟩),.int .i64 (e.size:Int),.slice (some ⟨w.heap.size+1,0,none⟩) 0 e.size,.pointer (some ⟨bs,0,none⟩),.pointer (some ⟨bs,0,none⟩),.pointer (some ⟨bs,2,none⟩),.pointer (some ⟨bd,0,none⟩),.iface 29 (.pointer (some ⟨bd,0,none⟩)),.pointer (some ⟨w.heap.size,4,none⟩),.int .i64 (e.at_:Int),.func (.func 124) #[] #[.pointer (some ⟨w.heap.size+3+1,0,none⟩),.pointer (some ⟨w.heap.size+3,0,none⟩)],.int .i64 (m.p.at_:Int),.slice (some ⟨m.g,4,none⟩) m.p.l.length 124,undef,undef,undef,undef],defers:=[] })
  (λm a A B h b=>h)
  (λr pre m A B h b=>⟨⟨h.1.pre,by obtain⟨aD,aR⟩:=h.1.pg;exact⟨aD,aR.kept b (by have:=h.1.ge;omega)⟩,h.1.ge⟩,h.2⟩) ?assign ?body ?done ?stop
 case assign=>
  intro aV r pre m Q A bg f z aM C;dsimp only [Ku];gi_wp2;exact C _ _ (za.refl _ _) f z rfl
 case body=>
  rintro aV r pre m Q aN A f z rfl aM;have g:Hid _:=f;obtain⟨aD,X⟩:=z.1.pg;have aC:(cA pre).length+m.p.l.length<=e.size:=by have:=U2 z.1.pre;rw [au.out] at this;omega
  have aX:A.cell? ⟨w.heap.size+1+1,0,none⟩=some (.slice (some ⟨w.heap.size+1,0,none⟩) (cA pre).length e.size):=cR f.sl rfl;change Hid _ at X;clear f z;gi_wp2_with (gi_at_builtin;refine wpListIn_append_fits _ rfl _ _ 35 rfl 0 5 V 1 Tryz.underlying35 W.1 W.2 (w.heap.size+1) (cA pre).length e.size ((cA pre).map qy) rfl g.row ⟨m.g,4,none⟩ m.p.l.length 124 (m.p.l.map qy) rfl (by simp) (Yl X) (vr _) aC ?_;intro v R s;have ah:Hid _:=za.grown s (λk b=>(eG b).symm);have L:Hid (v.heap[w.heap.size+2]? =_):=(ah.block _ (by omega) (by omega)).trans g.sl;have a9:v.cell? ⟨w.heap.size+1+1,0,none⟩=some (.slice (some ⟨w.heap.size+1,0,none⟩) (cA pre).length e.size):=(cR L.out rfl);have a8:v.frozen? ⟨w.heap.size+1+1,0,none⟩=false:=aa v (w.heap.size+2) 0 _ _ L.out;change Hid _ at R;clear s);have aH:=za.setCell (S:=λj=>j=w.heap.size+2) v ⟨w.heap.size+2,0,none⟩ (.slice (some ⟨w.heap.size+1,0,none⟩) ((cA pre).length+m.p.l.length) e.size) rfl;have a1:=heap_setCell_same v (w.heap.size+2) 0 _ _ (.slice (some ⟨w.heap.size+1,0,none⟩) ((cA pre).length+m.p.l.length) e.size) L.out;have o:=(ah.mono (S':=λj=>j=w.heap.size+1\/j=w.heap.size+2) iL).trans aH (λ_ h=>.inl (.inr h));have G:(cA (pre++[m])).length=(cA pre).length+m.p.l.length:=by rw [Yk,ag]
  refine⟨o.mono (λj d=>.inl (by omega)),Q,⟨g.q,g.disk.kept o (λj d aW=>by have:=K.out j d;omega),g.rd,(o.block _ (lT g.box) (by omega)).trans g.box,?_,?_,g.kept.trans o (λj d=>.inl (by omega))⟩,λk b=>.inl b⟩;.rw [G];exact a1
  .rw [G,Yk,eh];exact aH.owns R (λj d aP=>by simp [Value.ownBlock] at d;omega)
 case done=>
  rintro a2 r ar Q A U f rfl C;have g:Hid _:=f;have q:=(U3 U.1).trans au.out;have ab:=U.2;have a3:Hid _:=C;have ao:(cA ar).length=l.length:=by rw [q]
  have aX:A.cell? ⟨w.heap.size+1+1,0,none⟩=some (.slice (some ⟨w.heap.size+1,0,none⟩) l.length e.size):=by rw [aG A _ 0 _ _ _ f.sl,ao];rfl
  change Hid _ at q;clear f U C ao;dsimp only;go_wp2;have ap:za (λk=>k=n.heap.size) A (A.putObj n.heap.size (.deferred none)):=za.putObj _ _ _ rfl;have F:=g.row;rw [q.out] at F;refine jh rfl a3 (results_tmp rfl _ _ _) ⟨⟨some ⟨w.heap.size+1,0,none⟩,e.size,by rw [y];rfl,ap.owns F (λj d aP=>by simp [Value.ownBlock] at d;omega),λj d=>by simp [Value.ownBlock] at d;omega⟩,⟨r,g.rd,ab,g.disk.kept ap (λj d aP=>by have:=K.out j d;omega)⟩,?_⟩
  exact((Y.mono (S':=λi=>i=bd) fE).trans g.kept (λj d=>by
   rcases d with h|h|h|h;.exact .inl h
   .exact .inr (by omega)
   .exact .inr (by omega)
   .exact .inr (by omega))).trans ap (λj d=>.inr (by omega))
 case stop=>
  rintro a2 c r pre A U f rfl C;exact f.elim
end prog
namespace prog
open Go.MuLone
open keys (zh zd zx zq zp)
theorem qa{w:World}{bs:Nat}{q:Option Nat}(h:zu w bs 1 q):CallsD Tryz.prog 48 #[.pointer (some ⟨bs,0,none⟩)] .returning w λe u' w'=>u'=.returning/\e=.returned (.tuple #[])/\zu w' bs 0 q/\za (λk=>k=bs) w w':=
 (unlock_deferred Tryz.muLib ⟨bs,0,none⟩ .returning w h.c0 (h.fz 0)).mono (by
  rintro e u' w' ⟨rfl,rfl,rfl⟩
  exact⟨rfl,rfl,h.set 0,za.setCell (S:=λk=>k=bs) w ⟨bs,0,none⟩ _ rfl⟩)
theorem qc{w:World}{bs:Nat}{q:Option Nat}(h:zu w bs 0 q):Calls Tryz.prog 47 #[.pointer (some ⟨bs,0,none⟩)] w λe w'=>e=.returned (.tuple #[])/\zu w' bs 1 q/\za (λk=>k=bs) w w':=
 (lock_free Tryz.muLib ⟨bs,0,none⟩ w h.c0 (h.fz 0)).mono (by
  rintro e w' ⟨rfl,rfl⟩
  exact⟨rfl,h.set 1,za.setCell (S:=λk=>k=bs) w ⟨bs,0,none⟩ _ rfl⟩)
theorem results_tmp3{P:Program}{fn:Func}{a b c:Tmp}(h:fn.results=#[.tmp a,.tmp b,.tmp c])(tmps:Array Value)(w:World):(results fn tmps).run P w=.ok (.tuple #[tmps.getD a undef,tmps.getD b undef,tmps.getD c undef]) w:=by
 simp [results,h]
theorem Jz(w:World)(bs:Nat)(q:Option Nat)(i:zu w bs 0 q)(a:ByteArray)(m:a.size<=maxLen)(b:zp a.data.toList=false):
 Calls Tryz.prog 26 #[.pointer (some ⟨bs,0,none⟩),.string a] w λe w'=>e=.returned (.tuple #[.slice none 0 0,.int .i64 0,.int .i64 2])/\zu w' bs 0 q/\za (λk=>k=bs) w w':=by
 change Hid _ at i b;go_enter_defers Tryz.func26,Tryz.ntmps26
 go_wp2_with (first
  |(go_at_call 47;refine(qc i).mono ?_;rintro e n ⟨rfl,d,c⟩;change Hid _ at d c)
  |(go_at_call 49;refine(keys.ql a n m).mono ?_;rintro e l ⟨rfl,g⟩;rw [g,b.out];clear g l))
 refine leaves_cons (f:= 48) (args:=#[.pointer (some ⟨bs,0,none⟩)]) (by simp) (by simp [go_sem]) ?_;refine(qa d).mono ?_;rintro e u' l ⟨rfl,rfl,h,j⟩;exact⟨_,results_tmp3 Tryz.results26 _ _,rfl,h,c.trans j iL⟩
theorem Ua(w:World)(bs:Nat)(i:zu w bs 0 none)(a:ByteArray)(m:a.size<=maxLen)(b:zp a.data.toList=true):
 Calls Tryz.prog 26 #[.pointer (some ⟨bs,0,none⟩),.string a] w λe w'=>e=.returned (.tuple #[.slice none 0 0,.int .i64 0,.int .i64 8])/\zu w' bs 0 none/\za (λk=>k=bs) w w':=by
 change Hid _ at i b;go_enter_defers Tryz.func26,Tryz.ntmps26
 go_wp2_with (first
  |(go_at_call 47;refine(qc i).mono ?_;rintro e n ⟨rfl,c,d⟩;have o:=c.c2;change Hid _ at c d)
  |(go_at_call 49;refine(keys.ql a n m).mono ?_;rintro e j ⟨rfl,g⟩;rw [g,b.out];clear g j))
 refine leaves_cons (f:= 48) (args:=#[.pointer (some ⟨bs,0,none⟩)]) (by simp) (by simp [go_sem]) ?_;refine(qa c).mono ?_;rintro e u' j ⟨rfl,rfl,h,l⟩;exact⟨_,results_tmp3 Tryz.results26 _ _,rfl,h,d.trans l iL⟩
structure Ds (w w':World) (x:Value) (l:List UInt8):Prop where
 at_:∃a cap,x=.slice a l.length cap/\w'.ownsRow 0 5 1 (.slice a l.length cap) l.length (l.map qy)/\∀k,(Value.slice a l.length cap).ownBlock=some k->w.heap.size<=k
theorem Ub(w:World)(bs bd:Nat)(S:Nat->Prop)(D:Dk)(N:zu w bs 0 (some bd))(I:zg w bd S D)(H:¬S bs)(W:0<=D.reads)(ag:D.reads<=4611686018427350000)(b n:Nat)(R:qT (D.look 1) b n)(a:ByteArray)(ac:a.size<=maxLen)(g:zp a.data.toList=true)(G:List En)(o:List Nat)(hF:qY (λj=>D.look (j:Nat)) b G o)(Q:o.length<=979)(hbs:∀j∈o,21<=j)(q:Option En)(X:(yP ⟨a,9223372036854775807⟩ G).head? =q)(d:xT a q=false):
 Calls Tryz.prog 26 #[.pointer (some ⟨bs,0,none⟩),.string a] w λe w'=>e=.returned (.tuple #[.slice none 0 0,.int .i64 0,.int .i64 5])/\zu w' bs 0 (some bd)/\(∃r:Int,D.reads<=r/\r<=D.reads+14/\zg w' bd S {D with reads:=r })/\za (λk=>k=bd\/k=bs) w w':=by
 have ae:Hid (zg w bd S D):=I;have V:Hid (zp a.data.toList=true):=g;have K:Hid (xT a q=false):=d;have U:bs≠bd:=λe=>H (by rw [e];exact I.bdS);have Y:Hid (∀j,S j->j≠bs):=λj af e=>H (by rw [<-e];exact af);have O:Hid (∀w',zu w' bs 1 (some bd)->zg w' bd S D->Calls Tryz.prog 50 #[.pointer (some ⟨bs,0,none⟩),.string a] w' λe z=>e=.returned (.tuple #[.agg (xZ q).toArray,.bool (xT a q)])/\(∃r:Int,D.reads<=r/\r<=D.reads+14/\zg z bd S {D with reads:=r })/\za (λi=>i=bd) w' z):=λw' ab h2=>xj w' bs bd S D 1 ab h2 H W (by omega) b n R a G o hF Q hbs q X
 obtain⟨s,u,t,p,v,P⟩:∃(s:ByteArray) (u:Int) (t:Bool) (p v:Int),xZ q=[.string s,.int .i64 u,.bool t,.int .i64 p,.int .i64 v]:=by
  cases q with
  |none=>exact⟨_,_,_,_,_,rfl⟩
  |some aj=>exact⟨_,_,_,_,_,rfl⟩
 have ad:Hid (xZ q=[.string s,.int .i64 u,.bool t,.int .i64 p,.int .i64 v]):=P;change Hid _ at N;clear I R hF hbs X g P d;go_enter_defers Tryz.func26,Tryz.ntmps26
 go_wp2_with (first
  |(go_at_call 47;refine(qc N).mono ?_;rintro e l ⟨rfl,c,y⟩;have C:Hid (za (λk=>k=bs) w l):=y;have ai:l.cell? ⟨bs,2,none⟩=some (.pointer (some ⟨bd,0,none⟩)):=c.c2;change Hid _ at c;clear y)
  |(go_at_call 49;refine(keys.ql a l ac).mono ?_;rintro e m ⟨rfl,E⟩;rw [E,V.out];clear E m)
  |(go_at_call 50;refine(O l c (ae.kept C Y)).mono ?_;rintro e m ⟨rfl,⟨aa,L,J,F⟩,x⟩;rw [ad.out,K.out];have T:Hid (zg m bd S {D with reads:=aa }):=F;have B:Hid (za (λi=>i=bd) l m):=x;clear F x))
 refine leaves_cons (f:= 48) (args:=#[.pointer (some ⟨bs,0,none⟩)]) (by simp) (by simp [go_sem]) ?_;have M:=za.alloc (λ_=>False) m (.cells #[.string s,.int .i64 u,.bool t,.int .i64 p,.int .i64 v] 109);refine(qa ((c.kept B U).kept M id)).mono ?_;rintro e u' ah ⟨rfl,rfl,Z,A⟩;exact⟨_,results_tmp3 Tryz.results26 _ _,rfl,Z,⟨aa,L,J,(T.kept M nF).kept A Y⟩,(((C.mono (S':=λk=>k=bd\/k=bs) (λ_ h=>.inr h)).trans B (λ_ h=>.inl (.inl h))).trans M fE).trans A (λ_ h=>.inl (.inr h))⟩
theorem Uc(w:World)(bs bd:Nat)(S:Nat->Prop)(D:Dk)(ae:zu w bs 0 (some bd))(F:zg w bd S D)(L:¬S bs)(ao:0<=D.reads)(aU:D.reads<=4611686018427350000)(v n:Nat)(am:qT (D.look 1) v n)(d:ByteArray)(aC:d.size<=maxLen)(E:zp d.data.toList=true)(ab:List En)(K:List Nat)(hF:qY (λj=>D.look (j:Nat)) v ab K)(av:K.length<=979)(hbs:∀j∈K,21<=j)(c:En)(ar:(yP ⟨d,9223372036854775807⟩ ab).head? =some c)(y:xT d (some c)=true)
 (ps:List zv) (T:yZ (λj=>D.look (j:Nat)) ps) (P:(ps.map zv.at_).Nodup) (W:xo ps=c.at_) (l:List UInt8) (ap:(ps.map zv.l).flatten=l) (Q:l.length=c.size) (ay:c.size<=300) (a4:ps.length<=10):
 Calls Tryz.prog 26 #[.pointer (some ⟨bs,0,none⟩),.string d] w λe w'=>(∃a o,e=.returned (.tuple #[.slice a l.length o,.int .i64 c.pl.num,.int .i64 0])/\w'.ownsRow 0 5 1 (.slice a l.length o) l.length (l.map qy)/\∀k,(Value.slice a l.length o).ownBlock=some k->w.heap.size<=k)/\zu w' bs 0 (some bd)/\(∃r:Int,D.reads<=r/\r<=D.reads+14+ps.length/\zg w' bd S {D with reads:=r })/\za (λk=>k=bd\/k=bs) w w':=by
 have aE:Hid (zg w bd S D):=F;have aw:Hid (zp d.data.toList=true):=E;have ag:Hid (xT d (some c)=true):=y;have aR:bd<w.heap.size:=F.lt bd F.bdS;have aH:=ae.lt;have Y:bs≠bd:=λe=>L (by rw [e];exact F.bdS);have aq:Hid (∀j,S j->j≠bs):=λj I e=>L (by rw [<-e];exact I);have aj:Hid (∀w',zu w' bs 1 (some bd)->zg w' bd S D->Calls Tryz.prog 50 #[.pointer (some ⟨bs,0,none⟩),.string d] w' λe q=>e=.returned (.tuple #[.agg (xZ (some c)).toArray,.bool (xT d (some c))])/\(∃r:Int,D.reads<=r/\r<=D.reads+14/\zg q bd S {D with reads:=r })/\za (λi=>i=bd) w' q):=λw' af h2=>xj w' bs bd S D 1 af h2 L ao (by omega) v n am d ab K hF av hbs _ ar;have Z:Hid (∀w' (r:Int),zu w' bs 1 (some bd)->zg w' bd S {D with reads:=r}->0<=r->r<=4611686018427360000->Calls Tryz.prog 51 #[.pointer (some ⟨bs,0,none⟩),.agg (qr c).toArray] w' λa1 q=>(∃a o,a1=.returned (.slice a l.length o)/\q.ownsRow 0 5 1 (.slice a l.length o) l.length (l.map qy)/\∀j,(Value.slice a l.length o).ownBlock=some j->w'.heap.size<=j)/\(∃ad:Int,r<=ad/\ad<=r+ps.length/\zg q bd S {D with reads:=ad })/\za (λi=>i=bd) w' q):=λw' r af h2 aD aO=>dE w' bs bd S {D with reads:=r} 1 af h2 L aD aO c ps T P W l ap Q ay (by omega);change Hid _ at ae;clear F am hF hbs ar E y T P W ap Q;have N:xZ (some c)=[.string c.pl.key,.int .i64 c.pl.num,.bool c.mark,.int .i64 (c.size:Int),.int .i64 (c.at_:Int)]:=rfl;have au:Hid (xZ (some c)=[.string c.pl.key,.int .i64 c.pl.num,.bool c.mark,.int .i64 (c.size:Int),.int .i64 (c.at_:Int)]):=N;clear N;go_enter_defers Tryz.func26,Tryz.ntmps26
 go_wp2_with (first
  |(go_at_call 47;refine(qc ae).mono ?_;rintro e z ⟨rfl,x,V⟩;have B:Hid (za (λk=>k=bs) w z):=V;have a2:z.cell? ⟨bs,2,none⟩=some (.pointer (some ⟨bd,0,none⟩)):=x.c2;change Hid _ at x;clear V)
  |(go_at_call 49;refine(keys.ql d z aC).mono ?_;rintro e b ⟨rfl,U⟩;rw [U,aw.out];clear U b)
  |(go_at_call 50;refine(aj z x (aE.kept B aq)).mono ?_;rintro e b ⟨rfl,⟨ah,aN,aB,aa⟩,O⟩;rw [au.out,ag.out];have an:Hid (zg b bd S {D with reads:=ah }):=aa;have H:Hid (za (λi=>i=bd) z b):=O;clear aa O))
 have C:Hid (za (λ_=>False) b (b.alloc (.cells #[.string c.pl.key,.int .i64 c.pl.num,.bool c.mark,.int .i64 (c.size:Int),.int .i64 (c.at_:Int)] 109))):=za.alloc _ _ _;have s:Hid ((b.alloc (.cells #[.string c.pl.key,.int .i64 c.pl.num,.bool c.mark,.int .i64 (c.size:Int),.int .i64 (c.at_:Int)] 109)).heap[b.heap.size]? =some (.cells #[.string c.pl.key,.int .i64 c.pl.num,.bool c.mark,.int .i64 (c.size:Int),.int .i64 (c.at_:Int)] 109 (0,0))):=ac b _;have aQ:(b.alloc (.cells #[.string c.pl.key,.int .i64 c.pl.num,.bool c.mark,.int .i64 (c.size:Int),.int .i64 (c.at_:Int)] 109)).heap.size=b.heap.size+1:=by simp
 generalize (b.alloc (.cells #[.string c.pl.key,.int .i64 c.pl.num,.bool c.mark,.int .i64 (c.size:Int),.int .i64 (c.at_:Int)] 109))=g at*;have aV:=B.size;have aT:=H.size;have R:Hid (zu g bs 1 (some bd)):=(x.kept H Y).kept C id;have al:Hid (zg g bd S {D with reads:=ah }):=an.kept C nF;have aK:g.cell? ⟨b.heap.size,0,none⟩=some (.string c.pl.key):=cR s.out rfl;have aJ:g.cell? ⟨b.heap.size,1,none⟩=some (.int .i64 c.pl.num):=cR s.out rfl;have aL:g.cell? ⟨b.heap.size,2,none⟩=some (.bool c.mark):=cR s.out rfl;have aF:g.cell? ⟨b.heap.size,3,none⟩=some (.int .i64 (c.size:Int)):=cR s.out rfl;have aI:g.cell? ⟨b.heap.size,4,none⟩=some (.int .i64 (c.at_:Int)):=cR s.out rfl;have t:b.heap.size<g.heap.size:=by omega
 have m:¬b.heap.size=bd:=by omega
 unfold qr at Z;go_wp2_with fail;go_region_held3 (λw'=>w'.cell? ⟨b.heap.size,0,none⟩=some (.string c.pl.key)/\w'.cell? ⟨b.heap.size,1,none⟩=some (.int .i64 c.pl.num)/\w'.cell? ⟨b.heap.size,2,none⟩=some (.bool c.mark)/\w'.cell? ⟨b.heap.size,3,none⟩=some (.int .i64 (c.size:Int))/\w'.cell? ⟨b.heap.size,4,none⟩=some (.int .i64 (c.at_:Int))) (go_keep) ((go_at_call 51;refine(Z _ ah (R.kept (za.drew (λ_=>False) g) id) (al.kept (za.drew (λ_=>False) g) nF) (by omega) (by omega)).mono ?_;rintro e u ⟨⟨aA,aP,rfl,J,A⟩,⟨ax,aM,aG,M⟩,p⟩;have ai:Hid (zg u bd S {D with reads:=ax }):=M;have X:Hid (za (λi=>i=bd) g.drew u):=p;have aX:u.cell? ⟨b.heap.size,0,none⟩=some (.string c.pl.key):=(p.cell (a:=⟨b.heap.size,0,none⟩) t m).trans aK;have a3:u.cell? ⟨b.heap.size,1,none⟩=some (.int .i64 c.pl.num):=(p.cell (a:=⟨b.heap.size,1,none⟩) t m).trans aJ;have a5:u.cell? ⟨b.heap.size,2,none⟩=some (.bool c.mark):=(p.cell (a:=⟨b.heap.size,2,none⟩) t m).trans aL;have aW:u.cell? ⟨b.heap.size,3,none⟩=some (.int .i64 (c.size:Int)):=(p.cell (a:=⟨b.heap.size,3,none⟩) t m).trans aF;have aY:u.cell? ⟨b.heap.size,4,none⟩=some (.int .i64 (c.at_:Int)):=(p.cell (a:=⟨b.heap.size,4,none⟩) t m).trans aI;change Hid _ at J A;clear M p))
 all_goals
  go_wp2;refine leaves_cons (f:= 48) (args:=#[.pointer (some ⟨bs,0,none⟩)]) (by simp) (by simp [go_sem]) ?_;have az:=R.kept (za.drew (λ_=>False) g) id;refine(qa (az.kept X Y)).mono ?_;rintro e u' a0 ⟨rfl,rfl,ak,G⟩;have aS:g.drew.heap.size=g.heap.size:=rfl;refine⟨_,results_tmp3 Tryz.results26 _ _,⟨aA,aP,rfl,G.owns J (λj I aZ=>by have:=A.out j I;omega),λj I=>by have:=A.out j I;omega⟩,ak,⟨ax,by omega,by omega,ai.kept G aq⟩,?_⟩;exact(((((B.mono (S':=λk=>k=bd\/k=bs) (λ_ h=>.inr h)).trans H (λ_ h=>.inl (.inl h))).trans C fE).trans (za.drew (λ_=>False) g) fE).trans X (λ_ h=>.inl (.inl h))).trans G (λ_ h=>.inl (.inr h))
theorem Ud(w:World)(bs:Nat)(q:Option Nat)(i:zu w bs 0 q)(a:ByteArray)(j:Int)(n:a.size<=maxLen)(b:zp a.data.toList=false):
 Calls Tryz.prog 42 #[.pointer (some ⟨bs,0,none⟩),.string a,.int .i64 j] w λe w'=>e=.returned (.tuple #[.slice none 0 0,.int .i64 2])/\zu w' bs 0 q/\za (λk=>k=bs) w w':=by
 change Hid _ at i b;go_enter_defers Tryz.func42,Tryz.ntmps42
 go_wp2_with (first
  |(go_at_call 47;refine(qc i).mono ?_;rintro e o ⟨rfl,d,c⟩;change Hid _ at d c)
  |(go_at_call 49;refine(keys.ql a o n).mono ?_;rintro e m ⟨rfl,g⟩;rw [g,b.out];clear g m))
 refine leaves_cons (f:= 48) (args:=#[.pointer (some ⟨bs,0,none⟩)]) (by simp) (by simp [go_sem]) ?_;refine(qa d).mono ?_;rintro e u' m ⟨rfl,rfl,h,l⟩;exact⟨_,results_tmp2 rfl _ _ _,rfl,h,c.trans l iL⟩
theorem U4(w:World)(bs:Nat)(i:zu w bs 0 none)(a:ByteArray)(j:Int)(n:a.size<=maxLen)(b:zp a.data.toList=true):
 Calls Tryz.prog 42 #[.pointer (some ⟨bs,0,none⟩),.string a,.int .i64 j] w λe w'=>e=.returned (.tuple #[.slice none 0 0,.int .i64 8])/\zu w' bs 0 none/\za (λk=>k=bs) w w':=by
 change Hid _ at i b;go_enter_defers Tryz.func42,Tryz.ntmps42
 go_wp2_with (first
  |(go_at_call 47;refine(qc i).mono ?_;rintro e o ⟨rfl,c,d⟩;have p:=c.c2;change Hid _ at c d)
  |(go_at_call 49;refine(keys.ql a o n).mono ?_;rintro e l ⟨rfl,g⟩;rw [g,b.out];clear g l))
 refine leaves_cons (f:= 48) (args:=#[.pointer (some ⟨bs,0,none⟩)]) (by simp) (by simp [go_sem]) ?_;refine(qa c).mono ?_;rintro e u' l ⟨rfl,rfl,h,m⟩;exact⟨_,results_tmp2 rfl _ _ _,rfl,h,d.trans m iL⟩
def Gp(key:ByteArray)(num:Int):Option En->Bool
 |some x=>decide (x.pl.key=key)&&decide (x.pl.num=num)&& !x.mark
 |none=>false
theorem at_none(w:World)(bs bd:Nat)(S:Nat->Prop)(D:Dk)(af:zu w bs 0 (some bd))(B:zg w bd S D)(T:¬S bs)(aa:0<=D.reads)(aB:D.reads<=4611686018427350000)(s n:Nat)(Y:qT (D.look 1) s n)(a:ByteArray)(b:Int)(ao:a.size<=maxLen)(A:zp a.data.toList=true)(P:List En)(G:List Nat)(hF:qY (λj=>D.look (j:Nat)) s P G)(aj:G.length<=979)(hbs:∀j∈G,21<=j)(E:Option En)(ab:(yP ⟨a,b⟩ P).head? =E)(x:Gp a b E=false):
 Calls Tryz.prog 42 #[.pointer (some ⟨bs,0,none⟩),.string a,.int .i64 b] w λe w'=>e=.returned (.tuple #[.slice none 0 0,.int .i64 5])/\zu w' bs 0 (some bd)/\(∃r:Int,D.reads<=r/\r<=D.reads+14/\zg w' bd S {D with reads:=r })/\za (λk=>k=bd\/k=bs) w w':=by
 have aq:Hid (zg w bd S D):=B;have ay:=B.lt bd B.bdS;have al:bs≠bd:=λe=>T (by rw [e];exact B.bdS);have ad:Hid (∀j,S j->j≠bs):=λj av e=>T (by rw [<-e];exact av)
 have V:Hid (∀w',zu w' bs 1 (some bd)->zg w' bd S D->Calls Tryz.prog 66 #[.pointer (some ⟨bs,0,none⟩),.agg #[.string a,.int .i64 b]] w' λe I=>e=.returned (.tuple #[.agg (xZ E).toArray,.bool E.isSome])/\(∃r:Int,D.reads<=r/\r<=D.reads+14/\zg I bd S {D with reads:=r })/\za (λi=>i=bd) w' I):=λw' ar h2=>by have:=fa w' bs bd S D 1 ar h2 T aa (by omega) s n Y ⟨a,b⟩ P G hF aj hbs;rw [ab] at this;exact this
 obtain⟨g,l,m,C,F,ag,N⟩:∃(g:ByteArray) (l:Int) (m:Bool) (C F:Int),xZ E=[.string g,.int .i64 l,.bool m,.int .i64 C,.int .i64 F]/\Gp a b E=(E.isSome&&(decide (g=a)&&decide (l=b)&& !m)):=by
  cases E with
  |none=>exact⟨_,_,_,_,_,rfl,rfl⟩
  |some aH=>exact⟨_,_,_,_,_,rfl,rfl⟩
 change Hid _ at N;change Hid _ at af A x ag;clear B Y hF hbs ab;go_enter_defers Tryz.func42,Tryz.ntmps42
 go_wp2_with (first
  |(go_at_call 47;refine(qc af).mono ?_;rintro e c ⟨rfl,v,L⟩;have y:Hid (za (λk=>k=bs) w c):=L;have aF:=v.c2;change Hid _ at v;clear L)
  |(go_at_call 49;refine(keys.ql a c ao).mono ?_;rintro e d ⟨rfl,K⟩;rw [K,A.out];clear K d))
 have u:Hid (za (λ_=>False) c (c.alloc (.cells #[.string a,.int .i64 b] 107))):=za.alloc _ _ _;have ak:Hid ((c.alloc (.cells #[.string a,.int .i64 b] 107)).heap[c.heap.size]? =some (.cells #[.string a,.int .i64 b] 107 (0,0))):=ac c _;have az:(c.alloc (.cells #[.string a,.int .i64 b] 107)).heap.size=c.heap.size+1:=by simp
 generalize (c.alloc (.cells #[.string a,.int .i64 b] 107))=au at*;have aC:=y.size;refine(V au (v.kept u id) ((aq.kept y ad).kept u nF)).mono ?_;rintro e d ⟨rfl,⟨am,U,Q,O⟩,o⟩;have Z:Hid (zg d bd S {D with reads:=am }):=O;have aA:=o.size;have J:Hid (d.heap[c.heap.size]? =_):=(o.block _ (by omega) (by omega)).trans ak.out;change Hid _ at o;clear O;rw [ag.out]
 have H:Hid ((E.isSome&&(decide (g=a)&&decide (l=b)&& !m))=false):=by show (E.isSome&&(decide (g=a)&&decide (l=b)&& !m))=false;rw [<-N.out];exact x.out
 generalize E.isSome=f at*;have z:Hid (za (λ_=>False) d (d.alloc (.cells #[.string g,.int .i64 l,.bool m,.int .i64 C,.int .i64 F] 109))):=za.alloc _ _ _;have ax:(d.alloc (.cells #[.string g,.int .i64 l,.bool m,.int .i64 C,.int .i64 F] 109)).heap.size=d.heap.size+1:=by simp
 have aG:d.cell? ⟨c.heap.size,0,none⟩=some (.string a):=cR J.out rfl;have aD:d.cell? ⟨c.heap.size,1,none⟩=some (.int .i64 b):=cR J.out rfl;have an:c.heap.size<d.heap.size:=by omega
 have t:Hid (∀R:World,R=(d.alloc (.cells #[.string g,.int .i64 l,.bool m,.int .i64 C,.int .i64 F] 109))->∀tmps:Array Value,tmps.getD 6 undef=.slice none 0 0->tmps.getD 7 undef=.int .i64 5->bodyPostD Tryz.prog Tryz.f42 (λe w'=>e=.returned (.tuple #[.slice none 0 0,.int .i64 5])/\zu w' bs 0 (some bd)/\(∃r:Int,D.reads<=r/\r<=D.reads+14/\zg w' bd S {D with reads:=r })/\za (λk=>k=bd\/k=bs) w w') .ret {tmps:=tmps,defers:=[{target:=.fn (.func 48) #[],args:=#[.pointer (some ⟨bs,0,none⟩)] }]} R):=by
  rintro R rfl tmps ap aw;refine leaves_cons (f:= 48) (args:=#[.pointer (some ⟨bs,0,none⟩)]) (by simp) (by simp [go_sem]) ?_;refine(qa (((v.kept u id).kept o al).kept z id)).mono ?_;rintro e u' aE ⟨rfl,rfl,W,M⟩;refine⟨_,results_tmp2 rfl _ _ _,?_,W,⟨am,U,Q,(Z.kept z nF).kept M ad⟩,?_⟩;.rw [ap,aw]
  .exact((((y.mono (S':=λk=>k=bd\/k=bs) (λ_ h=>.inr h)).trans u fE).trans o (λ_ h=>.inl (.inl h))).trans z fE).trans M (λ_ h=>.inl (.inr h))
 cases f with
 |false=>
  go_wp2;exact t _ rfl _ rfl rfl
 |true=>
  by_cases p:g.toList=a.toList
  .have ae:(g.toList==a.toList)=true:=by simp [p]
   have ah:Hid _:=qN.1 p;clear p;by_cases q:l=b
   .have ai:(l==b)=true:=by simp [q]
    have X:m=true:=by
     have:=H.out;rw [ah.out,q] at this;cases m;.simp at this
     .rfl
    subst X;clear q;go_wp2;exact t _ rfl _ rfl rfl
   .have ai:(l==b)=false:=by simpa using q
    clear q;go_wp2;exact t _ rfl _ rfl rfl
  .have ae:(g.toList==a.toList)=false:=by simpa using p
   clear p;go_wp2;exact t _ rfl _ rfl rfl
end prog
end Go.Proofs.YtcoengihaobddaaGreatDoor

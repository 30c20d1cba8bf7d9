/- Part 13 of 50 of a proof: Walk1, Walk2, Walk3, Sto1, Sto2, Lck -/
import Derived.Test.YtcoengihaobddaaGreatDoorJe12
import Derived.Conc.RwLib
import Derived.Conc.MuLone
import Derived.Defers
set_option maxHeartbeats 8000000
set_option linter.unusedVariables false
set_option linter.unusedSimpArgs false
set_option maxRecDepth 8000
namespace Go.Proofs.YtcoengihaobddaaGreatDoor
open Go.ChangeShapes Go.WideShapes Go.ChangeAt Go.RowKit disk ref
namespace prog
open keys (zg zd zq zl)
variable {k:Int}{h bs:Nat}{w:World}{q:Option Nat}
structure GL (R1 R2:Int) (all:List En) (r:Int) (pre:List En) (x:En):Prop where
 le:r<=R2
 first:pre=[]->r<=R1
 pre:(pre++[x])<+:all
structure bV (l:Nat) (J:Int->List En->(Nat->Prop)->World->Prop) (Jx:Int->List En->World->Prop) (B bd:Nat) (S:Nat->Prop) (D:Dk) (R1 R2:Int) (all:List En):Prop where
 inv:∀r pre Q A,J r pre Q A->ze A bd S {D with reads:=r}/\∀k,Q k->k<A.heap.size
 stp:∀r r' pre Q A A',J r pre Q A->r<=r'->Kept (λk=>k=bd) A A'->ze A' bd S {D with reads:=r'}->J r' pre Q A'
 yld:∀m r pre x Q A,J r pre Q A->GL R1 R2 all r pre x->YieldAt Fence.wide m Tryz.prog l #[.agg (qE x).toArray] A (Gz J Jx B r (pre++[x]) Q A)
 bdB:bd<B
def kE(J:Int->List En->(Nat->Prop)->World->Prop)(Jx:Int->List En->World->Prop)(B:Nat)(W:World)(r:Int)(pre:List En)(Q:Nat->Prop)(y:List En)(n f:Nat)(e:Ending)(W':World):Prop:=
 (e=.returned (.bool true)/\∃(r':Int) (Q':Nat->Prop),r<=r'/\r'<=r+n/\(y=[]->r'<=r+f)/\J r' (pre++y) Q' W'/\Kept (λk=>k<B\/Q k) W W'/\∀k,Q' k->Q k\/W.heap.size<=k)\/(e=.returned (.bool false)/\∃r' q,Jx r' q W')
theorem Ue(l:Nat)(ag:Int->List En->(Nat->Prop)->World->Prop)(aH:Int->List En->World->Prop)(B bd:Nat)(S:Nat->Prop)(D:Dk)(aJ al:Int)(ae:List En)(ad:bV l ag aH B bd S D aJ al ae)(bG:al<=4611686018427380000)
 (q:World) (r:Int) (pre:List En) (Q:Nat->Prop) (aK:ag r pre Q q) (bO:B<=q.heap.size) (p:Pl) (V:Nat) (bi:V<65536) (c:List En) (aB:∀e∈c,e.Ok) (am:0<c.length) (aS:c.length<=6) (aT:xi c) (bg:D.look V=zo (zc 5 c))
 (bf:0<=r) (bb:r+1<=al) (aZ:pre=[]->r+1<=aJ) (aO:(pre++xn p c)<+:ae):
 Calls Tryz.prog 191 #[.iface 29 (.pointer (some ⟨bd,0,none⟩)),.int .i64 V,.agg #[.string p.key,.int .i64 p.num],.func (.yield l) #[] #[]] q (kE ag aH B q r pre Q (xn p c) 1 1):=by
 have ba:Hid (∀e∈c,e.Ok):=aB;have ap:=(ad.inv r pre Q q aK).1;have bn:Hid (ze q bd S {D with reads:=r }):=ap;obtain⟨aq⟩:Nonempty (PLift (ag r pre Q q)):=⟨⟨aK⟩⟩;have bE:=ap.lt bd ap.bdS;change Hid _ at ad aT bg;clear aB aK ap;go_enter Tryz.func191,Tryz.ntmps191;go_wp2_with fail;have Y:Hid (Kept (λ_=>False) q (q.alloc (.cells #[.string p.key,.int .i64 p.num] 107))):=Kept.alloc _ _ _;have aC:Hid ((q.alloc (.cells #[.string p.key,.int .i64 p.num] 107)).heap[q.heap.size]? =some (.cells #[.string p.key,.int .i64 p.num] 107 (0,0))):=heap_alloc_new q _;have bF:(q.alloc (.cells #[.string p.key,.int .i64 p.num] 107)).heap.size=q.heap.size+1:=by simp
 generalize (q.alloc (.cells #[.string p.key,.int .i64 p.num] 107))=aP at*;refine(Qm aP bd S _ (bn.kept Y nF) bf (by show r<=_;omega) V bi 5 c (.inr rfl) ba (λh=>absurd h (by decide)) aS bg).mono ?_;rintro E f ⟨a,cap,rfl,aD,C,I,H,aQ⟩;have W:Hid (ze f bd S {D with reads:=r+1 }):=aD;have bt:=C.size;have aE:Hid (f.heap[q.heap.size]? =_):=(C.block _ (by omega) (by omega)).trans aC.out;change Hid _ at C I H;clear aD aQ;go_wp2_with fail
 obtain⟨g,rfl⟩:∃g,a=some ⟨g,0,none⟩:=by
  rcases H.2 with⟨_,au⟩|⟨g,aN,aV,aR,_⟩;.omega
  .cases aR;exact⟨g,rfl⟩
 have bq:c.length<=cap:=by
  rcases H.2 with⟨au,bu⟩|⟨bL,aN,aV,aR,_,bN,au,bu,_⟩;.cases au
  .cases aR;exact au
 have x:Hid (Kept (λ_=>False) f (f.alloc (.cells #[.int .u8 5,.slice (some ⟨g,0,none⟩) c.length cap] 209))):=Kept.alloc _ _ _;have aj:Hid ((f.alloc (.cells #[.int .u8 5,.slice (some ⟨g,0,none⟩) c.length cap] 209)).heap[f.heap.size]? =some (.cells #[.int .u8 5,.slice (some ⟨g,0,none⟩) c.length cap] 209 (0,0))):=heap_alloc_new f _;have bI:(f.alloc (.cells #[.int .u8 5,.slice (some ⟨g,0,none⟩) c.length cap] 209)).heap.size=f.heap.size+1:=by simp
 generalize (f.alloc (.cells #[.int .u8 5,.slice (some ⟨g,0,none⟩) c.length cap] 209))=w at*;have aw:Hid _:=I.kept x nF;have ak:Hid (w.heap[q.heap.size]? =_):=(x.block _ (by omega) id).trans aE.out;have Z:w.cell? ⟨f.heap.size,0,none⟩=some (.int .u8 5):=cR aj.out rfl;have aa:w.cell? ⟨f.heap.size,1,none⟩=some (.slice (some ⟨g,0,none⟩) c.length cap):=cR aj.out rfl;have ac:w.cell? ⟨q.heap.size,0,none⟩=some (.string p.key):=cR ak.out rfl;have ab:w.cell? ⟨q.heap.size,1,none⟩=some (.int .i64 p.num):=cR ak.out rfl;have G:q.heap.size<w.heap.size:=by omega
 have F:f.heap.size<w.heap.size:=by omega
 have a9:=jF c p;have X:Hid _:=GK aT p;have T:Hid (∀w':World,Kept (λ_=>False) w w'->Calls Tryz.prog 175 #[.agg #[.int .u8 5,.slice (some ⟨g,0,none⟩) c.length cap],.agg #[.string p.key,.int .i64 p.num]] w' λr a6=>r=.returned (.int .i64 (zr c p:Nat))/\Kept (λ_=>False) w' a6):=λw' a1=>kf w' _ _ cap c (aw.kept a1 nF) aT 5 p;generalize zr c p=i at*;by_cases bp:i<c.length
 .have aU:¬(cap:Int)=(i:Int):=by omega
  have bw:¬cap=i:=by omega
  have bx:(i:Int)<=(c.length:Int):=by omega
  go_region_held3 (λw'=>w'.cell? ⟨f.heap.size,0,none⟩=some (.int .u8 5)/\w'.cell? ⟨f.heap.size,1,none⟩=some (.slice (some ⟨g,0,none⟩) c.length cap)/\w'.cell? ⟨q.heap.size,0,none⟩=some (.string p.key)/\w'.cell? ⟨q.heap.size,1,none⟩=some (.int .i64 p.num)) (go_keep) ((go_at_call 175;refine(T _ (Kept.drew _ _)).mono ?_;rintro E o ⟨rfl,d⟩;have A:Hid _:=d;have L:=(d.cell (a:=⟨f.heap.size,0,none⟩) F id).trans Z;have O:=(d.cell (a:=⟨f.heap.size,1,none⟩) F id).trans aa;have P:=(d.cell (a:=⟨q.heap.size,0,none⟩) G id).trans ac;have K:=(d.cell (a:=⟨q.heap.size,1,none⟩) G id).trans ab;clear d));have u:Hid _:=((((Y.mono fE).trans C iL).trans x fE).trans (Kept.drew (λ_=>False) w) fE).trans A fE;have y:Hid (Kept (λ_=>False) f o):=(x.trans (Kept.drew (λ_=>False) w) iL).trans A iL;have J:Hid (ze o bd S {D with reads:=r+1 }):=W.kept y nF;have N:PLift (ag (r+1) pre Q o):=⟨ad.stp r (r+1) pre Q q o aq.down (by omega) u J⟩;have az:Hid _:=I.kept y nF;obtain⟨-, -, -, -, -, bC,bz⟩:=az.cells 0 am;have bc:Hid _:=(ad.inv r pre Q q aq.down).2;clear Z aa ac ab L O P K aw T x aj aE ak aC C W;generalize av:c.length-i=n at*;go_wp2_with fail;go_loopw [46] (λt wr=>∃(k:Nat) (R:Nat->Prop),k<=n/\t=.int .i64 k/\ag (r+1) (pre++(c.drop i).take k) R wr/\Kept (λj=>j<B\/Q j) o wr/\∀j,R j->Q j\/o.heap.size<=j) (λt _=>n-(intOf t).toNat)
  case atStart=>exact⟨0,Q,ai _,rfl,by simpa using N.down,Kept.refl _ _,λ_ h=>.inl h⟩
  case round=>
   obtain⟨k,R,bM,rfl,m,v,U⟩:=hrel;have af:PLift (ag (r+1) (pre++(c.drop i).take k) R wr):=⟨m⟩;change Hid _ at v U;clear m;by_cases bA:k<n
   .have aY:Hid (ql wr (λb=>aP.heap.size<=b/\b<o.heap.size) (some ⟨g,0,none⟩) c):=by
     have:ql o (λb=>aP.heap.size<=b/\b<o.heap.size) (some ⟨g,0,none⟩) c:=az.below;exact this.kept v (λb bK bs=>bs.elim (λh=>by omega) (λh=>by have:=bc.out b h;omega))
    obtain⟨bh,a2,aW,a4,a8, -, bJ⟩:=aY.cells (i+k) (by omega)
    have s:(c.drop i).take (k+1)=(c.drop i).take k++[c[i+k]'(by omega)]:=by rw [ar (by simp;omega),lP]
    have M:Hid _:=s;clear s
    have bk:Hid (GL aJ al ae (r+1) (pre++(c.drop i).take k) (c[i+k]'(by omega))):=⟨bb,λbv=>aZ (lg.1 bv).1,by
     rw [an,<-M.out,X.out];obtain⟨z,br⟩:=aO
     exact⟨(xn p c).drop (k+1)++z,by rw [<-br,an,<-an ((xn p c).take (k+1)),aA,an]⟩⟩
    generalize c[i+k]'(by omega)=E at*;have aL:0+(i+k)*5=i*5+k*5:=by rw [eS];omega
    rw [aL] at bh a2 aW a4 a8;have ah:Hid (Kept (λ_=>False) wr (wr.alloc (.cells #[.string E.pl.key,.int .i64 E.pl.num,.bool E.mark,.int .i64 (E.size:Int),.int .i64 (E.at_:Int)] 109))):=Kept.alloc _ _ _;have a0:PLift (ag (r+1) (pre++(c.drop i).take k) R (wr.alloc (.cells #[.string E.pl.key,.int .i64 E.pl.num,.bool E.mark,.int .i64 (E.size:Int),.int .i64 (E.at_:Int)] 109))):=⟨ad.stp _ _ _ _ _ _ af.down (eD _) (ah.mono fE) ((ad.inv _ _ _ _ af.down).1.kept ah nF)⟩;obtain⟨fn,tmps,assign,body,a3,bm⟩:=ad.yld 5 _ _ E R _ a0.down bk.out;dsimp only [qE] at a3;refine(wpIn_wide (n:=6)).1 ?_;gi_wp2;refine bm.mono ?_;clear bm a3 bh a2 aW a4 a8;rintro e aX (⟨rfl,aI,aG,aF,ax⟩|⟨rfl,ay⟩)
    .have bj:PLift (ag (r+1) (pre++(c.drop i).take (k+1)) aI aX):=⟨by rw [M.out,<-an];exact aG⟩;have bB:(wr.alloc (.cells #[.string E.pl.key,.int .i64 E.pl.num,.bool E.mark,.int .i64 (E.size:Int),.int .i64 (E.at_:Int)] 109)).heap.size=wr.heap.size+1:=by simp
     have bo:=v.size
     have a7:Hid _:=(v.trans ah fE).trans aF (λj m=>by
      rcases m with h|h;.exact .inl (.inl h)
      .exact(U j h).imp .inr id)
     have be:Hid (∀j,aI j->Q j\/o.heap.size<=j):=λj m=>by
      rcases ax j m with h|h;.exact U j h
      .exact .inr (by omega)
     clear aG aF ax;gi_wp2;go_roundw
     case rel=>exact⟨k+1,aI,by omega,by go_num,bj.down,a7,be⟩
     case measure=>simp [intOf];omega
    .obtain⟨a5⟩:Nonempty (PLift (aH (r+1) (pre++(c.drop i).take k++[E]) aX)):=⟨⟨ay⟩⟩;clear ay;gi_wp2;go_ret;exact .inr ⟨rfl,_,_,a5.down⟩
   .have bD:k=n:=by omega
    have s:(c.drop i).take k=xn p c:=by rw [ao (by simp;omega)];exact X.out
    have M:Hid _:=s;clear s;go_wp2;go_ret;refine .inl ⟨rfl,r+1,R,by omega,by omega,λ_=>by omega,by rw [<-M.out];exact af.down,?_,λj m=>(U j m).imp id (λh=>by omega)⟩;exact(u.mono (λj m=>.inl (by rw [m];exact ad.bdB))).trans v iL
 .obtain rfl:i=c.length:=by omega
  clear bp a9;have bH:(c.length:Int)<=(cap:Int):=by omega
  by_cases bl:cap=c.length
  .subst bl;go_region_held3 (λw'=>w'.cell? ⟨f.heap.size,0,none⟩=some (.int .u8 5)/\w'.cell? ⟨f.heap.size,1,none⟩=some (.slice (some ⟨g,0,none⟩) c.length c.length)/\w'.cell? ⟨q.heap.size,0,none⟩=some (.string p.key)/\w'.cell? ⟨q.heap.size,1,none⟩=some (.int .i64 p.num)) (go_keep) ((go_at_call 175;refine(T _ (Kept.drew _ _)).mono ?_;rintro E o ⟨rfl,d⟩;have A:Hid _:=d;have L:=(d.cell (a:=⟨f.heap.size,0,none⟩) F id).trans Z;have O:=(d.cell (a:=⟨f.heap.size,1,none⟩) F id).trans aa;have P:=(d.cell (a:=⟨q.heap.size,0,none⟩) G id).trans ac;have K:=(d.cell (a:=⟨q.heap.size,1,none⟩) G id).trans ab;clear d));have u:Hid _:=((((Y.mono fE).trans C iL).trans x fE).trans (Kept.drew (λ_=>False) w) fE).trans A fE;have y:Hid _:=(x.trans (Kept.drew (λ_=>False) w) iL).trans A iL;have J:Hid _:=W.kept y nF;have N:PLift (ag (r+1) pre Q o):=⟨ad.stp r (r+1) pre Q q o aq.down (by omega) u J⟩;have av:c.length-c.length=0:=by omega
   try rw [av]
   have s:xn p c=[]:=by rw [<-X.out];exact eb (by omega)
   have M:Hid _:=s;clear s Z aa ac ab L O P K;go_wp2_with fail;go_loopw [46] (λt wr=>t=.int .i64 0/\wr=o) (λt _=>0)
   case atStart=>exact⟨rfl,rfl⟩
   case round=>
    obtain⟨rfl,rfl⟩:=hrel;go_wp2;go_ret;refine .inl ⟨rfl,r+1,Q,by omega,by omega,λ_=>by omega,by rw [M.out,aM];exact N.down,?_,λj m=>.inl m⟩;exact u.mono (λj m=>.inl (by rw [m];exact ad.bdB))
  .have aU:¬(cap:Int)=(c.length:Int):=by omega
   go_region_held3 (λw'=>w'.cell? ⟨f.heap.size,0,none⟩=some (.int .u8 5)/\w'.cell? ⟨f.heap.size,1,none⟩=some (.slice (some ⟨g,0,none⟩) c.length cap)/\w'.cell? ⟨q.heap.size,0,none⟩=some (.string p.key)/\w'.cell? ⟨q.heap.size,1,none⟩=some (.int .i64 p.num)) (go_keep) ((go_at_call 175;refine(T _ (Kept.drew _ _)).mono ?_;rintro E o ⟨rfl,d⟩;have A:Hid _:=d;have L:=(d.cell (a:=⟨f.heap.size,0,none⟩) F id).trans Z;have O:=(d.cell (a:=⟨f.heap.size,1,none⟩) F id).trans aa;have P:=(d.cell (a:=⟨q.heap.size,0,none⟩) G id).trans ac;have K:=(d.cell (a:=⟨q.heap.size,1,none⟩) G id).trans ab;clear d));have u:Hid _:=((((Y.mono fE).trans C iL).trans x fE).trans (Kept.drew (λ_=>False) w) fE).trans A fE;have y:Hid _:=(x.trans (Kept.drew (λ_=>False) w) iL).trans A iL;have J:Hid _:=W.kept y nF;have N:PLift (ag (r+1) pre Q o):=⟨ad.stp r (r+1) pre Q q o aq.down (by omega) u J⟩;have av:c.length-c.length=0:=by omega
   try rw [av]
   have s:xn p c=[]:=by rw [<-X.out];exact eb (by omega)
   have M:Hid _:=s;clear s Z aa ac ab L O P K;go_wp2_with fail;go_loopw [46] (λt wr=>t=.int .i64 0/\wr=o) (λt _=>0)
   case atStart=>exact⟨rfl,rfl⟩
   case round=>
    obtain⟨rfl,rfl⟩:=hrel;go_wp2;go_ret;refine .inl ⟨rfl,r+1,Q,by omega,by omega,λ_=>by omega,by rw [M.out,aM];exact N.down,?_,λj m=>.inl m⟩;exact u.mono (λj m=>.inl (by rw [m];exact ad.bdB))
structure Uf where
 blk:Nat
 y:List En
 n:Nat
 f:Nat
def xQ(ks:List Uf):List En:=(ks.map Uf.y).flatten
def vS(ks:List Uf):Nat:=(ks.map Uf.n).sum
def gB(ks:List Uf):Nat:=Ud (ks.map λk=>(k.f,k.y.isEmpty))
theorem J7{ks:List Uf}{k:Nat}(h:k<ks.length):xQ (ks.take (k+1))=xQ (ks.take k)++ks[k].y:=by
 rw [ar h];simp only [xQ,eh,aT,im,aY,eo,lX,aM]
theorem J8{ks:List Uf}{k:Nat}(h:k<ks.length):vS (ks.take (k+1))=vS (ks.take k)+ks[k].n:=by
 rw [ar h];simp only [vS,eh,aT,im,lJ,mz,List.sum_nil,lS]
theorem GM(ks:List Uf)(k:Nat):vS (ks.take k)<=vS ks:=by
 conv=>rhs;rw [<-aA k ks]
 simp only [vS,eh,lJ];omega
theorem GN{ks:List Uf}{k:Nat}(h:k<ks.length):gB (ks.drop k)=ks[k].f+if ks[k].y.isEmpty then gB (ks.drop (k+1)) else 0:=by
 rw [aL h];rfl
theorem Ug(ks:List Uf)(k:Nat):xQ (ks.take k)<+:xQ ks:=by
 conv=>rhs;rw [<-aA k ks]
 exact⟨xQ (ks.drop k),by simp only [xQ,eh,aY]⟩
structure K9 (l:Nat) (J:Int->List En->(Nat->Prop)->World->Prop) (Jx:Int->List En->World->Prop) (B bd:Nat) (R1 R2:Int) (all:List En) (p:Pl) (k:Uf):Prop where
 go:∀(A:World) (r:Int) (pre:List En) (Q:Nat->Prop),J r pre Q A->B<=A.heap.size->0<=r->r+k.n<=R2->(pre=[]->r+k.f<=R1)->(pre++k.y)<+:all->
  Calls Tryz.prog 191 #[.iface 29 (.pointer (some ⟨bd,0,none⟩)),.int .i64 k.blk,.agg #[.string p.key,.int .i64 p.num],.func (.yield l) #[] #[]] A (kE J Jx B A r pre Q k.y k.n k.f)
theorem XC(l:Nat)(T:Int->List En->(Nat->Prop)->World->Prop)(U:Int->List En->World->Prop)(B bd:Nat)(S:Nat->Prop)(D:Dk)(W V:Int)(L:List En)(aP:bV l T U B bd S D W V L)(bY:V<=4611686018427380000)
 (m:World) (r:Int) (pre:List En) (Q:Nat->Prop) (aK:T r pre Q m) (ca:B<=m.heap.size) (p:Pl) (J:Nat) (bs:J<65536) (c:List En) (aF:∀e∈c,e.Ok) (y:0<c.length) (aJ:c.length<=6) (a9:xi c) (ak:∀e∈c,e.mark=false/\e.size=0) (bk:D.look J=zo (zc 4 c))
 (ks:List Uf) (b2:ks.length=c.length-zK c p) (X:∀k (bF:k<ks.length) (I:zK c p+k<c.length),c[zK c p+k].at_=ks[k].blk) (ar:∀k∈ks,K9 l T U B bd W V L p k)
 (bj:0<=r) (bP:r+(1+vS ks:Nat)<=V) (a2:pre=[]->r+(1+gB ks:Nat)<=W) (aQ:(pre++xQ ks)<+:L):
 Calls Tryz.prog 191 #[.iface 29 (.pointer (some ⟨bd,0,none⟩)),.int .i64 J,.agg #[.string p.key,.int .i64 p.num],.func (.yield l) #[] #[]] m (kE T U B m r pre Q (xQ ks) (1+vS ks) (1+gB ks)):=by
 have br:Hid (∀e∈c,e.Ok):=aF;have bA:Hid (∀e∈c,e.mark=false/\e.size=0):=ak;have bX:=Qg p (l:=c) (λbz=>by rw [bz] at y;simp at y);have al:=(aP.inv r pre Q m aK).1;have bJ:Hid (ze m bd S {D with reads:=r }):=al;obtain⟨bq⟩:Nonempty (PLift (T r pre Q m)):=⟨⟨aK⟩⟩;have bT:=al.lt bd al.bdS;change Hid _ at aP a9 bk ar;clear aF aK al ak;go_enter Tryz.func191,Tryz.ntmps191;go_wp2_with fail;have aE:Hid (Kept (λ_=>False) m (m.alloc (.cells #[.string p.key,.int .i64 p.num] 107))):=Kept.alloc _ _ _;have bb:Hid ((m.alloc (.cells #[.string p.key,.int .i64 p.num] 107)).heap[m.heap.size]? =some (.cells #[.string p.key,.int .i64 p.num] 107 (0,0))):=heap_alloc_new m _;have bW:(m.alloc (.cells #[.string p.key,.int .i64 p.num] 107)).heap.size=m.heap.size+1:=by simp
 generalize (m.alloc (.cells #[.string p.key,.int .i64 p.num] 107))=aR at*;refine(Qm aR bd S _ (bJ.kept aE nF) bj (by show r<=_;omega) J bs 4 c (.inl rfl) br (λ_=>bA) aJ bk).mono ?_;rintro O d ⟨a,cap,rfl,aA,F,x,w,aS⟩;have az:Hid (ze d bd S {D with reads:=r+1 }):=aA;have bI:=F.size;have aC:Hid (d.heap[m.heap.size]? =_):=(F.block _ (by omega) (by omega)).trans bb.out;change Hid _ at F x w;clear aA aS;go_wp2_with fail
 obtain⟨g,rfl⟩:∃g,a=some ⟨g,0,none⟩:=by
  rcases w.2 with⟨_,G⟩|⟨g,aO,aY,aT,_⟩;.omega
  .cases aT;exact⟨g,rfl⟩
 have bB:c.length<=cap:=by
  rcases w.2 with⟨G,I⟩|⟨b8,aO,aY,aT,_,b9,G,I,_⟩;.cases G
  .cases aT;exact G
 have E:Hid (Kept (λ_=>False) d (d.alloc (.cells #[.int .u8 4,.slice (some ⟨g,0,none⟩) c.length cap] 209))):=Kept.alloc _ _ _;have ab:Hid ((d.alloc (.cells #[.int .u8 4,.slice (some ⟨g,0,none⟩) c.length cap] 209)).heap[d.heap.size]? =some (.cells #[.int .u8 4,.slice (some ⟨g,0,none⟩) c.length cap] 209 (0,0))):=heap_alloc_new d _;have b3:(d.alloc (.cells #[.int .u8 4,.slice (some ⟨g,0,none⟩) c.length cap] 209)).heap.size=d.heap.size+1:=by simp
 generalize (d.alloc (.cells #[.int .u8 4,.slice (some ⟨g,0,none⟩) c.length cap] 209))=q at*;have ap:Hid _:=x.kept E nF;have ac:Hid (q.heap[m.heap.size]? =_):=(E.block _ (by omega) id).trans aC.out;have a3:q.cell? ⟨d.heap.size,0,none⟩=some (.int .u8 4):=cR ab.out rfl;have bg:q.cell? ⟨d.heap.size,1,none⟩=some (.slice (some ⟨g,0,none⟩) c.length cap):=cR ab.out rfl;have aV:q.cell? ⟨m.heap.size,0,none⟩=some (.string p.key):=cR ac.out rfl;have aU:q.cell? ⟨m.heap.size,1,none⟩=some (.int .i64 p.num):=cR ac.out rfl;have ah:m.heap.size<q.heap.size:=by omega
 have ay:d.heap.size<q.heap.size:=by omega
 change Hid _ at X;have au:Hid (∀w':World,Kept (λ_=>False) q w'->Calls Tryz.prog 176 #[.agg #[.int .u8 4,.slice (some ⟨g,0,none⟩) c.length cap],.agg #[.string p.key,.int .i64 p.num]] w' λr bn=>r=.returned (.int .i64 (zK c p:Nat))/\Kept (λ_=>False) w' bn):=λw' a5=>uJ w' _ _ cap c (ap.kept a5 nF) a9 4 p;generalize zK c p=i at*;have bO:¬cap=i:=by omega
 have bR:(i:Int)<=(c.length:Int):=by omega
 go_region_held3 (λw'=>w'.cell? ⟨d.heap.size,0,none⟩=some (.int .u8 4)/\w'.cell? ⟨d.heap.size,1,none⟩=some (.slice (some ⟨g,0,none⟩) c.length cap)/\w'.cell? ⟨m.heap.size,0,none⟩=some (.string p.key)/\w'.cell? ⟨m.heap.size,1,none⟩=some (.int .i64 p.num)) (go_keep) ((go_at_call 176;refine(au _ (Kept.drew _ _)).mono ?_;rintro O u ⟨rfl,o⟩;have bl:=(o.cell (a:=⟨d.heap.size,0,none⟩) ay id).trans a3;have a7:=(o.cell (a:=⟨d.heap.size,1,none⟩) ay id).trans bg;have ba:=(o.cell (a:=⟨m.heap.size,0,none⟩) ah id).trans aV;have a1:=(o.cell (a:=⟨m.heap.size,1,none⟩) ah id).trans aU;change Hid _ at o));have af:Hid _:=((((aE.mono fE).trans F iL).trans E fE).trans (Kept.drew (λ_=>False) q) fE).trans o fE;have H:Hid (Kept (λ_=>False) d u):=(E.trans (Kept.drew (λ_=>False) q) iL).trans o iL;have aX:Hid (ze u bd S {D with reads:=r+1 }):=az.kept H nF;have a6:PLift (T (r+1) pre Q u):=⟨aP.stp r (r+1) pre Q m u bq.down (by omega) af aX⟩;have aW:Hid (u.heap[m.heap.size]? =some (.cells #[.string p.key,.int .i64 p.num] 107 (0,0))):=(o.block _ ah id).trans ac.out;have ax:Hid _:=x.kept H nF;have bN:m.heap.size+1<u.heap.size:=by have:=H.size;have:=o.size;have ce:q.drew.heap.size=q.heap.size:=rfl;omega
 obtain⟨-, -, -, -, -, b5,bS⟩:=ax.cells 0 y;have aq:Hid _:=(aP.inv r pre Q m bq.down).2;clear a3 bg aV aU bl a7 ba a1 ap au E ab aC F az;generalize cd:c.length-i=n at*;go_wp2_with fail;go_loopw [27] (λt wr=>∃(k:Nat) (s:Int) (A:Nat->Prop),k<=n/\t=.int .i64 k/\T s (pre++xQ (ks.take k)) A wr/\r+1<=s/\s<=r+1+vS (ks.take k)/\(xQ (ks.take k)=[]->s+gB (ks.drop k)<=r+1+gB ks)/\Kept (λj=>j<B\/Q j) u wr/\∀j,A j->Q j\/u.heap.size<=j) (λt _=>n-(intOf t).toNat)
 case atStart=>exact⟨0,r+1,Q,ai _,rfl,by simpa [xQ] using a6.down,by omega,by simp [vS],λ_=>by simp,Kept.refl _ _,λ_ h=>.inl h⟩
 case round=>
  obtain⟨k,s,A,bF,rfl,v,bQ,bv,M,f,N⟩:=hrel;have Z:PLift (T s (pre++xQ (ks.take k)) A wr):=⟨v⟩;change Hid _ at f N M;clear v;by_cases bU:k<n
  .have a0:Hid (ql wr (λb=>aR.heap.size<=b/\b<u.heap.size) (some ⟨g,0,none⟩) c):=by
    have:ql u (λb=>aR.heap.size<=b/\b<u.heap.size) (some ⟨g,0,none⟩) c:=ax.below;exact this.kept f (λb b7 aN=>aN.elim (λh=>by omega) (λh=>by have:=aq.out b h;omega))
   obtain⟨bL,bG,bE,bH,bp, -, b6⟩:=a0.cells (i+k) (by omega);have Y:=X.out k (by omega) (by omega);have aj:Hid (wr.heap[m.heap.size]? =some (.cells #[.string p.key,.int .i64 p.num] 107 (0,0))):=(f.block _ (by omega) (λaN=>aN.elim (λh=>by omega) (λh=>by have:=aq.out _ h;omega))).trans aW.out;have bu:Hid (K9 l T U B bd W V L p (ks[k]'(by omega))):=ar.out _ (ag _);have P:=J7 (ks:=ks) (k:=k) (by omega);have b1:=J8 (ks:=ks) (k:=k) (by omega);have ae:=GN (ks:=ks) (k:=k) (by omega);have b4:=GM ks (k+1);have aG:=Ug ks (k+1);generalize ks[k]'(by omega)=am at*;generalize c[i+k]'(by omega)=O at*;rw [Y] at bp;have aM:0+(i+k)*5=i*5+k*5:=by rw [eS];omega
   rw [aM] at bL bG bE bH bp;change Hid _ at P ae aG;clear Y X;have bZ:=(lT aj);have aV:wr.cell? ⟨m.heap.size,0,none⟩=some (.string p.key):=cR aj.out rfl;have aU:wr.cell? ⟨m.heap.size,1,none⟩=some (.int .i64 p.num):=cR aj.out rfl;go_wp2_with fail;have ad:Hid (Kept (λ_=>False) wr (wr.alloc (.cells #[.string O.pl.key,.int .i64 O.pl.num,.bool O.mark,.int .i64 (O.size:Int),.int .i64 (am.blk:Int)] 109))):=Kept.alloc _ _ _;have b0:(wr.alloc (.cells #[.string O.pl.key,.int .i64 O.pl.num,.bool O.mark,.int .i64 (O.size:Int),.int .i64 (am.blk:Int)] 109)).heap.size=wr.heap.size+1:=by simp
   generalize (wr.alloc (.cells #[.string O.pl.key,.int .i64 O.pl.num,.bool O.mark,.int .i64 (O.size:Int),.int .i64 (am.blk:Int)] 109))=bw at*;have a4:PLift (T s (pre++xQ (ks.take k)) A bw):=⟨aP.stp _ _ _ _ _ _ Z.down (eD _) (ad.mono fE) ((aP.inv _ _ _ _ Z.down).1.kept ad nF)⟩;have bK:=f.size
   have C:pre++xQ (ks.take k)=[]->s+am.f<=W:=λR=>by obtain⟨G,I⟩:=lg.1 R;have aL:=M.out I;have ak:=a2 G;rw [ae.out] at aL;omega
   refine(bu.go bw s _ A a4.down (by omega) (by omega) (by omega) C (by
    rw [an,<-P.out];obtain⟨z,bD⟩:=aG.out;obtain⟨bM,bi⟩:=aQ
    exact⟨z++bM,by rw [<-bi,<-bD,an,an,an]⟩)).mono ?_
   clear C;rintro e aZ (⟨rfl,aa,aI,cc,cb,bx,aH,aD,av⟩|⟨rfl,aa,bC,aw⟩)
   .have bt:PLift (T aa (pre++xQ (ks.take (k+1))) aI aZ):=⟨by rw [P.out,<-an];exact aH⟩
    have bo:Hid _:=(f.trans ad fE).trans aD (λj v=>by
     rcases v with h|h;.exact .inl (.inl h)
     .exact(N j h).imp .inr id)
    have bc:Hid (∀j,aI j->Q j\/u.heap.size<=j):=λj v=>by
     rcases av j v with h|h;.exact N j h
     .exact .inr (by omega)
    have bf:Hid (xQ (ks.take (k+1))=[]->aa+gB (ks.drop (k+1))<=r+1+gB ks):=λR=>by rw [P.out] at R;obtain⟨G,I⟩:=lg.1 R;have aL:=M.out G;have ak:=bx I;rw [ae.out,aB (by rw [I];rfl)] at aL;omega
    clear aH aD av bx;go_wp2;go_roundw
    case rel=>exact⟨k+1,aa,aI,by omega,by go_num,bt.down,by omega,by omega,bf,bo,bc⟩
    case measure=>simp [intOf];omega
   .obtain⟨be⟩:Nonempty (PLift (U aa bC aZ)):=⟨⟨aw⟩⟩;clear aw;go_wp2;go_ret;exact .inr ⟨rfl,_,_,be.down⟩
  .have K:ks.take k=ks:=ao (by omega);have bh:=eb (by omega);have a8:PLift (T s (pre++xQ ks) A wr):=⟨by have:=Z.down;rw [K] at this;exact this⟩
   have bm:Hid (xQ ks=[]->s<=r+1+gB ks):=λR=>by have:=M.out (by rw [K];exact R);omega
   rw [K] at bv;clear K bh;go_wp2;go_ret;refine .inl ⟨rfl,s,A,by omega,by omega,λh=>by have:=bm.out h;omega,a8.down,?_,λj v=>(N j v).imp id (λh=>by omega)⟩;exact(af.mono (λj v=>.inl (by rw [v];exact aP.bdB))).trans f iL
theorem kE.mono{s:Int->List En->(Nat->Prop)->World->Prop}{c:Int->List En->World->Prop}{B:Nat}{t:World}{r:Int}{pre:List En}{Q:Nat->Prop}{q d:List En}{n a f b:Nat}{e:Ending}{g:World}
 (h:kE s c B t r pre Q q n f e g) (l:q=d) (v:n<=a) (i:f=b):kE s c B t r pre Q d a b e g:=by
 subst l;subst i;rcases h with⟨p,j,m,k,u,o⟩|h;.exact .inl ⟨p,j,m,k,by omega,o⟩
 .exact .inr h
def Tr.kid{h:Nat}(t:Tr h)(p:Pl):Uf:=⟨t.blk,xn p t.ents,t.blocks.length,t.fy p⟩
theorem BT(a:List (Pl×Tr h))(p:Pl):xQ (a.map λc=>c.2.kid p)=xn p (zM a):=by
 induction a with
 |nil=>rfl
 |cons c a b=>rw [zp,vL,<-b];rfl
theorem BU(a:List (Pl×Tr h))(p:Pl):vS (a.map λc=>c.2.kid p)=(zF a).length:=by
 induction a with
 |nil=>rfl
 |cons c a b=>rw [qM,ah,<-b];rfl
theorem Z3(a:List (Pl×Tr h))(c:Nat):(zF (a.drop c)).length<=(zF a).length:=by
 conv=>rhs;rw [<-aA c a]
 rw [qz,ah];omega
theorem Qs(l:Nat)(H:Int->List En->(Nat->Prop)->World->Prop)(n:Int->List En->World->Prop)(B bd:Nat)(S:Nat->Prop)(D:Dk)(f d:Int)(a:List En)(U:bV l H n B bd S D f d a)(u:d<=4611686018427380000)(p:Pl):
 ∀(h:Nat) (t:Tr h),t.Good->1<=t.items.length->t.items.length<=6->xi t.ents->t.LayV zo (λj=>D.look (j:Nat))->K9 l H n B bd f d a p (t.kid p)
 |0,(b,es),g,h1,h6,hs,hl=>⟨λA r pre Q F G q o s i=>Ue l H n B bd S D f d a U u A r pre Q F G p b g.1 es g.2 h1 h6 hs hl q o s i⟩
 |h+1,(b,cs),g,h1,h6,hs,hl=>by
  have w:=aF h1 (eV (zA b cs));have Y:=aF (eV (zA b cs).symm) h6;have y:Kids cs:=g.kids;have I:cs≠[]:=λe=>by rw [e] at w;simp at w
  obtain⟨c,v⟩:∃c,c=zK (cs.map λc=>(⟨c.1,false,0,c.2.blk⟩:En)) p:=⟨_,rfl⟩;obtain⟨O,_⟩:=y.walk I p c v
  have E:∀c∈cs,c.2.ents.Sublist (zM cs):=λc J=>by obtain⟨A,B,rfl⟩:=li J;rw [zC,zp];exact((List.sublist_append_left _ _).trans (List.sublist_append_right _ _))
  have N:∀k∈(cs.drop c).map (λc=>c.2.kid p),K9 l H n B bd f d a p k:=λk L=>by obtain⟨x,V,rfl⟩:=av.1 L;have m:=eJ V;have K:=y.good x m;exact Qs l H n B bd S D f d a U u p h x.2 K.1 (by have:3<=x.2.items.length:=g.full x m;omega) K.2.1 (List.Pairwise.sublist (E x m) hs) (hl.2 x m)
  have C:(cs.map λc=>(⟨c.1,false,0,c.2.blk⟩:En)).length=cs.length:=by simp
  have W:1+vS ((cs.drop c).map λc=>c.2.kid p)<=(Tr.blocks (h:=h+1) (b,cs)).length:=by rw [BU];show 1+(zF (cs.drop c)).length<=(b::zF cs).length;have:=Z3 cs c;rw [ae];omega
  have hF:1+gB ((cs.drop c).map λc=>c.2.kid p)=Tr.fy p (h:=h+1) (b,cs):=by show 1+Ud _=1+Ud _;rw [v,lB];rfl
  have M:xQ ((cs.drop c).map λc=>c.2.kid p)=xn p (zM cs):=by rw [BT,O]
  refine⟨λA r pre Q F G q o s i=>?_⟩;have P:r+((Tr.blocks (h:=h+1) (b,cs)).length:Nat)<=d:=o;have z:pre=[]->r+(Tr.fy p (h:=h+1) (b,cs):Nat)<=f:=s
  refine(XC l H n B bd S D f d a U u A r pre Q F G p b g.1 (cs.map λc:Pl×Tr h=>(⟨c.1,false,0,c.2.blk⟩:En)) g.items_ok (by omega) (by omega) y.items_srt (λe X=>by
   obtain⟨x,_,rfl⟩:=av.1 X;exact⟨rfl,rfl⟩) hl.1 ((cs.drop c).map λc=>c.2.kid p) (by rw [<-v,C];simp) (λk L Z=>?_) N q (by omega) (λR=>by rw [hF];exact z R) (by rw [M];exact i)).mono ?_
  .simp only [<-v,ig,lP];rfl
  .intro e aa T;exact T.mono M W hF
structure uR (W:World) (b1 b2 b3 bd root:Nat) (p:Pl):Prop where
 root:W.heap[b1]? =some (.cells #[.int .i64 (root:Int)] 3 (0,0))
 rd:W.heap[b2]? =some (.cells #[.iface 29 (.pointer (some ⟨bd,0,none⟩))] 193 (0,0))
 pl:W.heap[b3]? =some (.cells #[.string p.key,.int .i64 p.num] 107 (0,0))
theorem uR.kept{j e:World}{b c d bd a:Nat}{p:Pl}(h:uR j b c d bd a p){X:Nat->Prop}(k:Kept X j e)(g:¬X b)(f:¬X c)(i:¬X d):uR e b c d bd a p:=
 ⟨(k.block _ (lT h.root) g).trans h.root,(k.block _ (lT h.rd) f).trans h.rd,(k.block _ (lT h.pl) i).trans h.pl⟩
theorem uS(w:World)(a b c:Obj):(((w.alloc a).alloc b).alloc c).heap[w.heap.size]? =some a/\(((w.alloc a).alloc b).alloc c).heap[w.heap.size+1]? =some b/\(((w.alloc a).alloc b).alloc c).heap[w.heap.size+2]? =some c/\Kept (λ_=>False) w (((w.alloc a).alloc b).alloc c)/\(((w.alloc a).alloc b).alloc c).heap.size=w.heap.size+3:=by
 have k3:=Kept.alloc (λ_=>False) ((w.alloc a).alloc b) c;have d:((w.alloc a).alloc b).heap.size=w.heap.size+2:=by simp
 refine⟨(k3.block _ (by omega) id).trans (((Kept.alloc (λ_=>False) (w.alloc a) b).block w.heap.size (by simp) id).trans (heap_alloc_new w _)),(k3.block _ (by omega) id).trans (heap_alloc2_new w _ _),?_,((Kept.alloc _ _ _).trans (Kept.alloc _ _ _) iL).trans k3 iL,by simp⟩;have:=heap_alloc_new ((w.alloc a).alloc b) c;rw [d] at this;exact this
theorem GO(w:World)(bd a:Nat)(p:Pl):Calls Tryz.prog 158 #[.iface 29 (.pointer (some ⟨bd,0,none⟩)),.int .i64 a,.agg #[.string p.key,.int .i64 p.num]] w λe w'=>
 e=.returned (.func (.func 190) #[] #[.pointer (some ⟨w.heap.size+1,0,none⟩),.pointer (some ⟨w.heap.size,0,none⟩),.pointer (some ⟨w.heap.size+2,0,none⟩)])/\uR w' (w.heap.size+1) w.heap.size (w.heap.size+2) bd a p/\Kept (λ_=>False) w w'/\w'.heap.size=w.heap.size+3:=by
 go_enter Tryz.func158,Tryz.ntmps158;go_wp2;go_ret;obtain⟨c,d,f,k3,b⟩:=uS w (.cells #[.iface 29 (.pointer (some ⟨bd,0,none⟩))] 193) (.cells #[.int .i64 (a:Int)] 3) (.cells #[.string p.key,.int .i64 p.num] 107);exact⟨rfl,⟨d,c,f⟩,k3,b⟩
theorem XD(f:World)(bd:Nat)(S:Nat->Prop)(D:Dk)(v x s c:Nat)(p:Pl)(b:uR f v x s bd c p)(w:List En)(bs:List Nat)(hF:yo (λj=>D.look (j:Nat)) c w bs)(y:bs.length<=979)(hbs:∀j∈bs,21<=j)(J:bd<f.heap.size)(a:Int)(C:0<=a)(X:a<=4611686018427370000):
 gi Tryz.prog 190 #[.pointer (some ⟨v,0,none⟩),.pointer (some ⟨x,0,none⟩),.pointer (some ⟨s,0,none⟩)] (λO:En=>#[.agg (qE O).toArray]) (λk=>k=bd) (λr _ A=>ze A bd S {D with reads:=r })
  (λr pre O _=>GL (a+13) (a+bs.length) (xn p w) r pre O) (λr F=>F=xn p w/\r<=a+bs.length/\(F=[]->r<=a+13)) (λ_ _=>True) a f:=by
 intro l B u n m o g;have aa:f.cell? ⟨v,0,none⟩=some (.int .i64 (c:Int)):=cR b.root rfl;have ac:f.cell? ⟨x,0,none⟩=some (.iface 29 (.pointer (some ⟨bd,0,none⟩))):=cR b.rd rfl;have ae:f.cell? ⟨s,0,none⟩=some (.string p.key):=cR b.pl rfl;have ag:f.cell? ⟨s,1,none⟩=some (.int .i64 p.num):=cR b.pl rfl;have z:PLift (B a [] (λ_=>False) f):=⟨g⟩;rcases hF with⟨rfl,rfl,rfl⟩|⟨h,t,d,E,rfl,rfl,rfl⟩
 .clear n m o g b;go_enter Tryz.func190,Tryz.ntmps190;go_wp2;go_end0;exact⟨⟨_,rfl⟩,.inl ⟨a,[],_,⟨rfl,by simp,λ_=>by omega⟩,z.down⟩⟩
 .have af:=d.low y;have W:=d.good.fy_le p d.one;have ab:t.blk≠0:=by have:=hbs _ t.blk_mem;omega
  clear hbs;have V:bV l B u f.heap.size bd S D (a+13) (a+t.blocks.length) (xn p t.ents):=⟨n,m,o,J⟩;have U:=Qs l B u f.heap.size bd S D (a+13) (a+t.blocks.length) (xn p t.ents) V (by omega) p h t d.good d.one d.hi d.srt E;have R:Hid (Calls Tryz.prog 191 #[.iface 29 (.pointer (some ⟨bd,0,none⟩)),.int .i64 t.blk,.agg #[.string p.key,.int .i64 p.num],.func (.yield l) #[] #[]] f (kE B u f.heap.size f a [] (λ_=>False) (xn p t.ents) t.blocks.length (t.fy p))):=U.go f a [] (λ_=>False) g (aC _) C (eD _) (λ_=>by show a+(t.fy p:Nat)<=_;omega) (List.prefix_refl _);clear U V n m o g b E;have Y:((t.blk:Int) !=0)=true:=by simp;omega
  go_enter Tryz.func190,Tryz.ntmps190;go_wp2_with fail;refine R.out.mono ?_;rintro e K (⟨rfl,i,H,ad,Z,L,I,N,P⟩|⟨rfl,i,q,G⟩)
  .have M:PLift (B i ([]++xn p t.ents) H K):=⟨I⟩;have Q:Hid _:=L;clear I L N P;go_wp2;go_end0;exact⟨⟨_,rfl⟩,.inl ⟨i,xn p t.ents,H,⟨rfl,by omega,λh=>by have:=Q.out h;omega⟩,M.down⟩⟩
  .have T:PLift (u i q K):=⟨G⟩;clear G;go_wp2;go_end0;exact⟨⟨_,rfl⟩,.inr ⟨i,q,eR,T.down⟩⟩
structure zt (w:World) (bs:Nat) (k:Int) (q:Option Nat):Prop where
 at_:w.heap[bs]? =some (.cells #[.int .i32 k,.int .u32 0,.pointer (q.map λb=>⟨b,0,none⟩)] 104 (0,0))
theorem zt.lt(h:zt w bs k q):bs<w.heap.size:=(lT h.at_)
theorem zt.kept{w':World}{T:Nat->Prop}(h:zt w bs k q)(a:Kept T w w')(b:¬T bs):zt w' bs k q:=⟨(a.block bs h.lt b).trans h.at_⟩
theorem zt.c0(h:zt w bs k q):w.cell? ⟨bs,0,none⟩=some (.int .i32 k):=cR h.at_ rfl
theorem zt.c2(h:zt w bs k q):w.cell? ⟨bs,2,none⟩=some (.pointer (q.map λb=>⟨b,0,none⟩)):=cR h.at_ rfl
theorem zt.fz(h:zt w bs k q)(i:Nat):w.frozen? ⟨bs,i,none⟩=false:=aa w bs i _ _ h.at_
theorem zt.set(h:zt w bs k q)(a:Int):zt (w.setCell ⟨bs,0,none⟩ (.int .i32 a)) bs a q:=⟨heap_setCell_same w bs 0 _ _ _ h.at_⟩
theorem jW(w:World)(bs bd:Nat)(S:Nat->Prop)(D:Dk)(k:Int)(B:zt w bs k (some bd))(g:ze w bd S D)(P:¬S bs)(I:0<=D.reads)(L:D.reads<=4611686018427387904)(b n:Nat)(E:yi (D.look 1) b n)(p:Pl):
 Calls Tryz.prog 114 #[.pointer (some ⟨bs,0,none⟩),.agg #[.string p.key,.int .i64 p.num]] w λe w'=>∃y A z,e=.returned (.func (.func 190) #[] #[.pointer (some ⟨y,0,none⟩),.pointer (some ⟨A,0,none⟩),.pointer (some ⟨z,0,none⟩)])/\uR w' y A z bd b p/\(w.heap.size<=y/\w.heap.size<=A/\w.heap.size<=z)/\ze w' bd S {D with reads:=D.reads+1}/\Kept (λi=>i=bd) w w':=by
 have O:Hid (ze w bd S D):=g;have v:=B.c2;have hbs:=B.lt;have X:=g.lt bd g.bdS;have C:¬bs=bd:=λe=>P (by rw [e];exact g.bdS);change Hid _ at B E;clear g;go_enter Tryz.func114,Tryz.ntmps114;go_wp2_with fail;have o:Hid (Kept (λ_=>False) w (w.alloc (.cells #[.string p.key,.int .i64 p.num] 107))):=Kept.alloc _ _ _;have r:Hid ((w.alloc (.cells #[.string p.key,.int .i64 p.num] 107)).heap[w.heap.size]? =some (.cells #[.string p.key,.int .i64 p.num] 107 (0,0))):=heap_alloc_new w _;have U:(w.alloc (.cells #[.string p.key,.int .i64 p.num] 107)).heap.size=w.heap.size+1:=by simp
 generalize (w.alloc (.cells #[.string p.key,.int .i64 p.num] 107))=s at*;have J:=(o.cell (a:=⟨bs,2,none⟩) hbs id).trans v;have Q:s.cell? ⟨w.heap.size,0,none⟩=some (.string p.key):=cR r.out rfl;have N:s.cell? ⟨w.heap.size,1,none⟩=some (.int .i64 p.num):=cR r.out rfl;have j:bs<s.heap.size:=by omega
 have d:w.heap.size<s.heap.size:=by omega
 have m:¬w.heap.size=bd:=by omega
 have G:Hid (ze s.drew bd S D):=(O.kept o nF).kept (Kept.drew (λ_=>False) s) nF;clear v;have Y:∀w:World,(Instr.field 145 (.agg #[.int .i64 (b:Int),.int .i64 (n:Int)]) 0).run Tryz.prog w=.ok (.int .i64 (b:Int)) w:=λ_=>by kernel_rfl
 go_region_held3 (λw'=>w'.cell? ⟨bs,2,none⟩=some (.pointer (some ⟨bd,0,none⟩))/\w'.cell? ⟨w.heap.size,0,none⟩=some (.string p.key)/\w'.cell? ⟨w.heap.size,1,none⟩=some (.int .i64 p.num)) (go_keep) (first
  |(go_at_call 74;refine(VZ _ bd S D G I L b n E).mono ?_;rintro e h ⟨rfl,u,c⟩;have M:Hid (ze h bd S {D with reads:=D.reads+1 }):=u;have K:=(c.cell (a:=⟨bs,2,none⟩) j C).trans J;have H:h.cell? ⟨w.heap.size,0,none⟩=some (.string p.key):=(c.cell (a:=⟨w.heap.size,0,none⟩) d m).trans Q;have F:h.cell? ⟨w.heap.size,1,none⟩=some (.int .i64 p.num):=(c.cell (a:=⟨w.heap.size,1,none⟩) d m).trans N;have l:s.heap.size<=h.heap.size:=c.size;change Hid _ at c;clear u)
  |(go_at_call 158;refine(GO _ bd b p).mono ?_;rintro e q ⟨rfl,x,f,V⟩;have t:Hid (Kept (λ_=>False) h q):=f;have R:q.cell? ⟨bs,2,none⟩=some (.pointer (some ⟨bd,0,none⟩)):=(f.cell (a:=⟨bs,2,none⟩) (au j l) id).trans K;have T:q.cell? ⟨w.heap.size,0,none⟩=some (.string p.key):=(f.cell (a:=⟨w.heap.size,0,none⟩) (au d l) id).trans H;have W:q.cell? ⟨w.heap.size,1,none⟩=some (.int .i64 p.num):=(f.cell (a:=⟨w.heap.size,1,none⟩) (au d l) id).trans F;change Hid _ at x;clear f))
 go_wp2;go_ret;refine⟨_,_,_,rfl,x,?_,M.kept t nF,?_⟩;.omega
 .exact((((o.mono fE).trans (Kept.drew (λ_=>False) s) fE)).trans c iL).trans t fE
end prog
namespace prog
open keys (zg zd zq zl)
attribute [local go_sem] Oper.semAt_some
def jP:Option En->List Value
 |some x=>qE x
 |none=>qI
structure Yf (w1:World) (bd:Nat) (S:Nat->Prop) (D:Dk) (r:Int) (pre:List En) (Q:Nat->Prop) (A:World):Prop where
 pre:pre=[]
 q:∀k,¬Q k
 disk:ze A bd S {D with reads:=r}
 kept:Kept (λk=>k=bd\/w1.heap.size<=k) w1 A
 rd:D.reads+1<=r
structure BV (w1:World) (bd:Nat) (S:Nat->Prop) (D:Dk) (b4 b5:Nat) (o:Option En) (c:Code) (r:Int) (A:World):Prop where
 c:c=.ret
 is:∃x,o=some x/\A.heap[b4]? =some (.cells (qE x).toArray 109 (0,0))/\A.heap[b5]? =some (.cells #[.bool true] 4 (0,0))
 disk:ze A bd S {D with reads:=r}
 kept:Kept (λk=>k=bd\/k=b4\/k=b5\/w1.heap.size<=k) w1 A
 rd:D.reads+1<=r/\r<=D.reads+14
theorem Yf.by{a:World}{bd:Nat}{S:Nat->Prop}{D:Dk}{r b:Int}{pre:List En}{Q j:Nat->Prop}{A B:World}(h:Yf a bd S D r pre Q A)(g:Kept j A B)(e:∀k,j k->k=bd\/a.heap.size<=k)(c:ze B bd S {D with reads:=b })(d:r<=b):Yf a bd S D b pre Q B:=
 ⟨h.pre,h.q,c,h.kept.trans g (λi f=>.inl (e i f)),lU h.rd d⟩
theorem dv{P:Program}{fn:Func}{p u:Tmp}{a e:TypeId}(h:fn.results=#[.cell p a,.cell u e])(tmps:Array Value)(w:World)(g d:Nat)(t s:TypeId)(b:Array Value)(j y:Nat×Nat)(k x:TypeDesc)(v:Value)
 (l:tmps.getD p undef=.pointer (some ⟨g,0,none⟩)) (o:w.heap[g]? =some (.cells b t j))
 (n:P.underlying a=some k) (m:(match k with|.struct _|.array _ _=>true|_=>false)=true) (q:(P.info? a).map (·.size)=some b.size)
 (i:tmps.getD u undef=.pointer (some ⟨d,0,none⟩)) (r:(loadVar e ⟨d,0,none⟩).run P w=.ok v w):
 (results fn tmps).run P w=.ok (.tuple #[.agg b,v]) w:=by
 have f:tmps[p]?.getD undef=.pointer (some ⟨g,0,none⟩):=by simpa using l
 have c:tmps[u]?.getD undef=.pointer (some ⟨d,0,none⟩):=by simpa using i
 simp [results,h,f,c,asAddr,run_loadVar_row w g t a b j k o n m q,r]
theorem dw(w:World)(g:Nat)(b:Bool)(h:w.heap[g]? =some (.cells #[.bool b] 4 (0,0))):(loadVar 4 ⟨g,0,none⟩).run Tryz.prog w=.ok (.bool b) w:=by
 have a:w.cell? ⟨g,0,none⟩=some (.bool b):=cR h rfl;simp [loadVar,isAgg,go_sem,a]
theorem Qt(w b A:World)(bs bd:Nat)(S:Nat->Prop)(D:Dk)(g:Option En)(r:Int)(a:Act)(B:bd<w.heap.size)(C:w.heap.size+3<=b.heap.size)(o:Kept (λi=>i=bd) w b)
 (p:A.heap[w.heap.size+1]? =some (.cells (jP g).toArray 109 (0,0))) (q:A.heap[w.heap.size+2]? =some (.cells #[.bool g.isSome] 4 (0,0))) (s:ze A bd S {D with reads:=r }) (y:∀j,S j->j<w.heap.size) (v:Kept (λk=>k=bd\/k=w.heap.size+1\/k=w.heap.size+2\/b.heap.size<=k) b A) (m:D.reads<=r/\r<=D.reads+14) (z:A.heap[b.heap.size]? =some (.deferred (some [])))
 (x:a.defers=[{target:=.collected b.heap.size,args:=#[] }]) (t:a.tmps.getD 4 undef=.pointer (some ⟨w.heap.size+1,0,none⟩)) (u:a.tmps.getD 5 undef=.pointer (some ⟨w.heap.size+2,0,none⟩)):
 Xt Tryz.prog Tryz.f66 (λe w'=>e=.returned (.tuple #[.agg (jP g).toArray,.bool g.isSome])/\(∃r:Int,D.reads<=r/\r<=D.reads+14/\ze w' bd S {D with reads:=r })/\Kept (λi=>i=bd) w w') .ret a A:=by
 have c:Kept (λk=>k=b.heap.size) A (A.putObj b.heap.size (.deferred none)):=Kept.putObj _ _ _ rfl;have l:=(c.block _ (lT p) (by omega)).trans p;have n:=(c.block _ (lT q) (by omega)).trans q;have f:(jP g).toArray.size=5:=by cases g<;>rfl
 refine j8 x z (dv Tryz.results66 _ _ (w.heap.size+1) (w.heap.size+2) 109 4 _ (0,0) (0,0) _ (.int .i64) _ t l Tryz.underlying109 rfl (by rw [f];kernel_rfl) u (dw _ _ _ n)) ⟨rfl,⟨r,m.1,m.2,s.kept c (λj d e=>by have:=y j d;omega)⟩,?_⟩;exact(o.trans v (λj d=>by rcases d with h|h|h|h;exact .inl h;exact .inr (by omega);exact .inr (by omega);exact .inr (by omega))).trans c (λj d=>.inr (by omega))
theorem dx(w:World)(bs bd:Nat)(S:Nat->Prop)(D:Dk)(k:Int)(al:zt w bs k (some bd))(y:ze w bd S D)(a4:¬S bs)(ax:0<=D.reads)(be:D.reads<=4611686018427360000)(u n:Nat)(aq:yi (D.look 1) u n)(p:Pl)(E:List En)(V:List Nat)(hF:yo (λj=>D.look (j:Nat)) u E V)(am:V.length<=979)(hbs:∀j∈V,21<=j):
 Calls Tryz.prog 66 #[.pointer (some ⟨bs,0,none⟩),.agg #[.string p.key,.int .i64 p.num]] w λe w'=>e=.returned (.tuple #[.agg (jP (xn p E).head?).toArray,.bool (xn p E).head?.isSome])/\(∃r:Int,D.reads<=r/\r<=D.reads+14/\ze w' bd S {D with reads:=r })/\Kept (λi=>i=bd) w w':=by
 have a3:Hid _:=al;have a8:Hid (ze w bd S D):=y;have aY:Hid _:=aq;have aV:Hid _:=hF;have aG:Hid _:=hbs;have hbs:=al.lt;have ac:=y.lt bd y.bdS;have H:Hid _:=y.lt;clear al y aq hF hbs;refine yT Tryz.func66 rfl ?_;simp only [Tryz.ntmps66,aw,ae,ix,Nat.reduceAdd,Nat.reduceSub,iX,iY,lp,i7,aH,a9];go_wp2_with fail;obtain⟨a7,aI,ao,k3,bj⟩:=uS w (.cells #[.string p.key,.int .i64 p.num] 107) (.cells #[.string ⟨#[]⟩,.int .i64 0,.bool false,.int .i64 0,.int .i64 0] 109) (.cells #[.bool false] 4);have aC:Hid _:=aI;have aE:Hid _:=ao;have L:Hid _:=k3;clear a7 aI ao k3;generalize (((w.alloc (.cells #[.string p.key,.int .i64 p.num] 107)).alloc (.cells #[.string ⟨#[]⟩,.int .i64 0,.bool false,.int .i64 0,.int .i64 0] 109)).alloc (.cells #[.bool false] 4))=bh at*;refine(jW bh bs bd S D k (a3.out.kept L.out id) (a8.out.kept L.out nF) a4 ax (by omega) u n aY.out p).mono ?_;rintro e s ⟨aj,ak,ah,rfl,N,bc,Y,C⟩;have aA:Hid _:=N;have ag:Hid (ze s bd S {D with reads:=D.reads+1 }):=Y;have av:Hid _:=C;have a2:=C.size;have ab:Hid (s.heap[w.heap.size+1]? =_):=(C.block _ (by omega) (by omega)).trans aC.out;have Z:Hid (s.heap[w.heap.size+2]? =_):=(C.block _ (by omega) (by omega)).trans aE.out;clear N Y C;go_wp2_with fail;have X:Hid (∀j,S j->j<s.heap.size):=ag.out.lt;have P:Hid _:=(L.out.mono fE).trans av.out iL
 refine vx (α:=En) (gf:= 190) (lb:=#[.pointer (some ⟨aj,0,none⟩),.pointer (some ⟨ak,0,none⟩),.pointer (some ⟨ah,0,none⟩)]) rfl (enters_of Tryz.func190 (by kernel_rfl) rfl)
  (λa0 d bb=>XD a0 bd S D aj ak ah u p (aA.out.kept d id id id) E V aV.out am aG.out (by omega) (D.reads+1) (by omega) (by omega))
  (λk d=>by rw [d];omega) (λ_=>rfl)
  (Yf s bd S D) (λc r pre A=>BV s bd S D (w.heap.size+1) (w.heap.size+2) (xn p E).head? c r A)
  (λr pre Q A h=>⟨h.disk,λk d=>(h.q k d).elim⟩)
  (λr bn pre Q A B h aF d f=>h.by d (λk d=>.inl d) f aF)
  (λr pre Q A B h d=>h.by d (λk d=>.inr (by omega)) (h.disk.kept d (λj o ai=>by have:=X.out j o;omega)) (eD _))
  (λc r pre A B h d=>⟨h.c,by
   obtain⟨m,I,J,U⟩:=h.is
   exact⟨m,I,(d.block _ (lT J) (by omega)).trans J,(d.block _ (lT U) (by omega)).trans U⟩,h.disk.kept d (λj o ai=>by have:=X.out j o;omega),h.kept.trans d (λi f=>.inl (.inr (.inr (.inr (by omega))))),h.rd⟩)
  ⟨rfl,λ_ h=>h,ag.out,Kept.refl _ _,eD _⟩
  (λm ar A=>∃t,s.heap.size+1<t/\A.heap[t]? =some (.cells (qE m).toArray 109 (0,0))/\ar={tmps:=#[.pointer (some ⟨bs,0,none⟩),.agg #[.string p.key,.int .i64 p.num],undef,.pointer (some ⟨w.heap.size,0,none⟩),.pointer (some ⟨w.heap.size+1,0,none⟩),.pointer (some ⟨w.heap.size+1+1,0,none⟩),.pointer (some ⟨t,0,none⟩),.pointer (some ⟨bs,0,none⟩),.agg #[.string p.key,.int .i64 p.num],.func (.func 190) #[] #[.pointer (some ⟨aj,0,none⟩),.pointer (some ⟨ak,0,none⟩),.pointer (some ⟨ah,0,none⟩)],.agg (qE m).toArray,undef,undef],defers:=[] })
  (λm a A B h d=>by
   obtain⟨t,I,J,U⟩:=h
   exact⟨t,I,(d.block _ (lT J) (by omega)).trans J,U⟩)
  (λr pre m A B h _=>h) ?assign ?body ?done ?stop
 case assign=>
  intro l r pre m Q A bp f R aB G;dsimp only [qE];gi_wp2;exact G _ _ (Kept.alloc _ _ _) (f.by (Kept.alloc (λ_=>False) _ _) (λ_ h=>h.elim) (f.disk.kept (Kept.alloc (λ_=>False) _ _) nF) (eD _)) R ⟨A.heap.size,by omega,heap_alloc_new A _,rfl⟩
 case body=>
  rintro l r pre m Q ar A f R ⟨t,ba,af,rfl⟩ aB;have F:Hid _:=f;have a5:Hid _:=R;have v:Hid _:=af;have b:Hid (A.heap[w.heap.size+1]? =_):=(f.kept.block _ (by omega) (by omega)).trans ab.out;have q:Hid (A.heap[w.heap.size+2]? =_):=(f.kept.block _ (by omega) (by omega)).trans Z.out
  have ap:Hid ((xn p E).head? =some m):=by have I:=R.pre;rw [f.pre] at I;obtain⟨z,aO⟩:=I;show (xn p E).head? =some m;rw [<-aO];rfl
  clear f R af;have bl:A.cell? ⟨t,0,none⟩=some (.string m.pl.key):=cR v.out rfl;have bk:A.cell? ⟨t,1,none⟩=some (.int .i64 m.pl.num):=cR v.out rfl;have bi:A.cell? ⟨t,2,none⟩=some (.bool m.mark):=cR v.out rfl;have bg:A.cell? ⟨t,3,none⟩=some (.int .i64 (m.size:Int)):=cR v.out rfl;have bm:A.cell? ⟨t,4,none⟩=some (.int .i64 (m.at_:Int)):=cR v.out rfl;have aU:A.cell? ⟨w.heap.size+1,0,none⟩=some (.string ⟨#[]⟩):=cR b.out rfl;have aZ:A.cell? ⟨w.heap.size+1,1,none⟩=some (.int .i64 0):=cR b.out rfl;have aS:A.cell? ⟨w.heap.size+1,2,none⟩=some (.bool false):=cR b.out rfl;have aM:A.cell? ⟨w.heap.size+1,3,none⟩=some (.int .i64 0):=cR b.out rfl;have a1:A.cell? ⟨w.heap.size+1,4,none⟩=some (.int .i64 0):=cR b.out rfl;have aW:=aa A (w.heap.size+1) 0 _ _ b.out;have aL:=aa A (w.heap.size+1) 1 _ _ b.out;have aQ:=aa A (w.heap.size+1) 2 _ _ b.out;have a6:=aa A (w.heap.size+1) 3 _ _ b.out;have aR:=aa A (w.heap.size+1) 4 _ _ b.out;have aN:A.cell? ⟨w.heap.size+1+1,0,none⟩=some (.bool false):=cR q.out rfl;have aP:A.frozen? ⟨w.heap.size+1+1,0,none⟩=false:=aa A (w.heap.size+2) 0 _ _ q.out;dsimp only [qE];gi_wp2;obtain⟨K,M⟩:=vK A (w.heap.size+1) 109 _ _ _ _ _ (.string m.pl.key) (.int .i64 m.pl.num) (.bool m.mark) (.int .i64 (m.size:Int)) (.int .i64 (m.at_:Int)) b.out;have O:=(M.block (w.heap.size+2) (by omega) (by omega)).trans q.out;have x:=Kept.setCell (S:=λj=>j=w.heap.size+2) (((((A.setCell ⟨w.heap.size+1,0,none⟩ (.string m.pl.key)).setCell ⟨w.heap.size+1,1,none⟩ (.int .i64 m.pl.num)).setCell ⟨w.heap.size+1,2,none⟩ (.bool m.mark)).setCell ⟨w.heap.size+1,3,none⟩ (.int .i64 (m.size:Int))).setCell ⟨w.heap.size+1,4,none⟩ (.int .i64 (m.at_:Int))) ⟨w.heap.size+2,0,none⟩ (.bool true) rfl;have g:=(M.mono (S':=λj=>j=w.heap.size+1\/j=w.heap.size+2) iL).trans x (λ_ h=>.inl (.inr h));refine⟨g.mono (λj o=>.inl (by omega)),rfl,⟨m,ap.out,?_,?_⟩,F.out.disk.kept g (λj o ai=>by have:=H.out j o;omega),(F.out.kept.mono (S':=λk=>k=bd\/k=w.heap.size+1\/k=w.heap.size+2\/s.heap.size<=k) (λj o=>by omega)).trans g (λj o=>.inl (by omega)),F.out.rd,?_⟩;.exact(x.block _ (by simp [World.setCell];omega) (by omega)).trans K
  .exact heap_setCell_same _ (w.heap.size+2) 0 _ _ _ O
  .have:=a5.out.first F.out.pre;omega
 case done=>
  rintro aT r bo Q A T f rfl G;have ad:xn p E=[]:=by rw [<-T.1];exact f.pre
  have v:Hid _:=ad;have F:Hid _:=f;have bf:=T.2.2 f.pre;have W:Hid _:=G;have b:Hid (A.heap[w.heap.size+1]? =_):=(f.kept.block _ (by omega) (by omega)).trans ab.out;have q:Hid (A.heap[w.heap.size+2]? =_):=(f.kept.block _ (by omega) (by omega)).trans Z.out;have aX:=f.kept.size;clear ad f T G;have aU:A.cell? ⟨w.heap.size+1,0,none⟩=some (.string ⟨#[]⟩):=cR b.out rfl;have aZ:A.cell? ⟨w.heap.size+1,1,none⟩=some (.int .i64 0):=cR b.out rfl;have aS:A.cell? ⟨w.heap.size+1,2,none⟩=some (.bool false):=cR b.out rfl;have aM:A.cell? ⟨w.heap.size+1,3,none⟩=some (.int .i64 0):=cR b.out rfl;have a1:A.cell? ⟨w.heap.size+1,4,none⟩=some (.int .i64 0):=cR b.out rfl;have aW:=aa A (w.heap.size+1) 0 _ _ b.out;have aL:=aa A (w.heap.size+1) 1 _ _ b.out;have aQ:=aa A (w.heap.size+1) 2 _ _ b.out;have a6:=aa A (w.heap.size+1) 3 _ _ b.out;have aR:=aa A (w.heap.size+1) 4 _ _ b.out;have aN:A.cell? ⟨w.heap.size+1+1,0,none⟩=some (.bool false):=cR q.out rfl;have aP:A.frozen? ⟨w.heap.size+1+1,0,none⟩=false:=aa A (w.heap.size+2) 0 _ _ q.out;dsimp only;go_wp2;obtain⟨K,M⟩:=vK A (w.heap.size+1) 109 _ _ _ _ _ (.string ⟨#[]⟩) (.int .i64 0) (.bool false) (.int .i64 0) (.int .i64 0) b.out;have O:=(M.block (w.heap.size+2) (by omega) (by omega)).trans q.out;have x:=Kept.setCell (S:=λj=>j=w.heap.size+2) (((((A.setCell ⟨w.heap.size+1,0,none⟩ (.string ⟨#[]⟩)).setCell ⟨w.heap.size+1,1,none⟩ (.int .i64 0)).setCell ⟨w.heap.size+1,2,none⟩ (.bool false)).setCell ⟨w.heap.size+1,3,none⟩ (.int .i64 0)).setCell ⟨w.heap.size+1,4,none⟩ (.int .i64 0)) ⟨w.heap.size+2,0,none⟩ (.bool false) rfl;have g:=(M.mono (S':=λj=>j=w.heap.size+1\/j=w.heap.size+2) iL).trans x (λ_ h=>.inl (.inr h));rw [v.out];refine Qt w s _ bs bd S D none r _ ac (by omega) P.out ?_ ?_ (F.out.disk.kept g (λj o ai=>by have:=H.out j o;omega)) H.out ((F.out.kept.mono (S':=λk=>k=bd\/k=w.heap.size+1\/k=w.heap.size+2\/s.heap.size<=k) (λj o=>by omega)).trans g (λj o=>.inl (by omega))) ⟨by have:=F.out.rd;omega,by omega⟩ ((g.block _ (lT W.out) (by omega)).trans W.out) rfl rfl rfl;.exact(x.block _ (by simp [World.setCell];omega) (by omega)).trans K
  .exact heap_setCell_same _ (w.heap.size+2) 0 _ _ _ O
 case stop=>
  rintro aT c r pre A T f rfl G;obtain⟨rfl,⟨m,az,au,aD⟩,y,d,aF⟩:=f;have v:Hid _:=az;have aK:Hid _:=au;have aJ:Hid _:=aD;have an:Hid _:=y;have ay:Hid _:=d;have W:Hid _:=G;clear az au aD y d G T;dsimp only;go_wp2;rw [v.out];exact Qt w s A bs bd S D (some m) r _ ac (by omega) P.out aK.out aJ.out an.out H.out ay.out ⟨by omega,by omega⟩ W.out rfl rfl rfl
end prog
namespace prog
open Go.MuLone
abbrev Tryz.muLink:Go.Conc.Locks.MuLink:={lock:= 47,unlock:= 48,ilock:= 69,iunlock:= 70,lockSlow:= 120,unlockSlow:= 123,disable:= 116,enable:= 118,acquire:= 119,relMerge:= 121,cas32:= 117,add32:= 122,tMutex:= 102,tIMutex:= 100,tPMutex:= 137,tPIMutex:= 185,tPI32:= 187,tUP:= 189,tNoCopy:= 97,tU32:= 98}
theorem Tryz.muLib:Go.Conc.Locks.MuLib Tryz.prog Tryz.muLink:=
 ⟨Tryz.func47,Tryz.func48,Tryz.func69,Tryz.func70,Tryz.func116,Tryz.func118,Tryz.func119,Tryz.func121,Tryz.func117,Tryz.func122,Tryz.underlying100,Tryz.runUnderlying100,Tryz.sizeOf100,Tryz.isAgg100,Tryz.zeroValue100,Tryz.underlying102,Tryz.runUnderlying102,Tryz.sizeOf102,Tryz.isAgg102,Tryz.zeroValue102,Tryz.underlying137,Tryz.runUnderlying137,Tryz.sizeOf137,Tryz.isAgg137,Tryz.zeroValue137,Tryz.underlying185,Tryz.runUnderlying185,Tryz.sizeOf185,Tryz.isAgg185,Tryz.zeroValue185,Tryz.underlying187,Tryz.runUnderlying187,Tryz.sizeOf187,Tryz.isAgg187,Tryz.zeroValue187,Tryz.underlying189,Tryz.runUnderlying189,Tryz.sizeOf189,Tryz.isAgg189,Tryz.zeroValue189,Tryz.underlying97,Tryz.runUnderlying97,Tryz.sizeOf97,Tryz.isAgg97,Tryz.zeroValue97,Tryz.underlying21,Tryz.runUnderlying21,Tryz.sizeOf21,Tryz.isAgg21,Tryz.zeroValue21,(by kernel_rfl)⟩
end prog
end Go.Proofs.YtcoengihaobddaaGreatDoor

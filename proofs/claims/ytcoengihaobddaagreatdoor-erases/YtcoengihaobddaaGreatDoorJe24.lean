/- Part 24 of 50 of a proof: Rem10, Rem8, Tr6, Shr1, Tr7 -/
import Derived.Test.YtcoengihaobddaaGreatDoorJe23
import Derived.Test.YtcoengihaobddaaGreatDoorJe12
set_option maxHeartbeats 8000000
set_option linter.unusedVariables false
set_option linter.unusedSimpArgs false
set_option maxRecDepth 8000
namespace Go.Proofs.YtcoengihaobddaaGreatDoor
namespace prog
open Go.ChangeShapes Go.WideShapes Go.ChangeAt Go.RowKit disk ref
open keys (zg zd zq zl)
structure kJ (bc bd:Nat) (S T:Nat->Prop) (D:Dk) (C:Ck) (root:Nat) (p:Pl) (root':Nat) (v:List Value) (ok:Bool) (C':Ck):Prop where
 go:∀(w:World) (r:Int),0<=r->r<=4611686018427360000->Cw w bc bd S T {D with reads:=r} C->
  Calls Tryz.prog 79 #[.pointer (some ⟨bc,0,none⟩),.int .i64 root,.agg #[.string p.key,.int .i64 p.num]] w λx w'=>x=.returned (.tuple #[.int .i64 (root':Int),.agg v.toArray,.bool ok])/\(∃(n:Int) (T':Nat->Prop),0<=n/\n<=27/\Cw w' bc bd S T' {D with reads:=r+n} C'/\∀j,T' j->T j\/w.heap.size<=j)/\Kept (λj=>j=bd\/T j) w w'
theorem jT{P:Program}{fn:Func}{p u v:Tmp}{a:TypeId}(h:fn.results=#[.tmp u,.cell p a,.tmp v])(tmps:Array Value)(w:World)(g:Nat)(t:TypeId)(b:Array Value)(d:Nat×Nat)(e:TypeDesc)
 (f:tmps.getD p undef=.pointer (some ⟨g,0,none⟩)) (k:w.heap[g]? =some (.cells b t d))
 (j:P.underlying a=some e) (i:(match e with|.struct _|.array _ _=>true|_=>false)=true) (l:(P.info? a).map (·.size)=some b.size):
 (results fn tmps).run P w=.ok (.tuple #[tmps.getD u undef,.agg b,tmps.getD v undef]) w:=by
 have c:tmps[p]?.getD undef=.pointer (some ⟨g,0,none⟩):=by simpa using f
 simp [results,h,c,asAddr,run_loadVar_row w g t a b d e k j i l]
theorem Jc(w:World)(d:Nat)(p:Pl)(a:Nat)(b:a=0):Calls Tryz.prog 79 #[.pointer (some ⟨d,0,none⟩),.int .i64 (a:Int),.agg #[.string p.key,.int .i64 p.num]] w λe w'=>e=.returned (.tuple #[.int .i64 (a:Int),.agg qI.toArray,.bool false])/\Kept (λ_=>False) w w':=by
 have f:((a:Int)==0)=true:=by rw [b];rfl
 clear b;unfold qI;go_enter Tryz.func79,Tryz.ntmps79;go_wp2;have c:=De w p;exact bodyPost_ret (jT rfl _ _ _ _ _ _ _ rfl c.res Tryz.underlying109 rfl (by kernel_rfl)) rfl ⟨rfl,c.kept⟩
def B0(bc bd:Nat)(S:Nat->Prop)(D:Dk)(C1:Ck)(root:Nat)(s:Bool)(root':Nat)(C2:Ck):Prop:=
 (s=false/\root'=root/\C2=C1)\/(s=true/\∀(w0:World) (T0:Nat->Prop) (r:Int),0<=r->r<=4611686018427380000->Cw w0 bc bd S T0 {D with reads:=r} C1->Calls Tryz.prog 142 #[.pointer (some ⟨bc,0,none⟩),.int .i64 (root:Int)] w0 λx w'=>x=.returned (.int .i64 (root':Nat))/\(∃(n:Int) (T':Nat->Prop),0<=n/\n<=2/\Cw w' bc bd S T' {D with reads:=r+n} C2/\∀j,T' j->T0 j\/w0.heap.size<=j)/\Kept (λj=>j=bd\/T0 j) w0 w')
theorem uo(w:World)(x bd:Nat)(S T:Nat->Prop)(D:Dk)(C:Ck)(r:Int)(h:Cw w x bd S T {D with reads:=r} C)(aj:0<=r)(p:Pl)(ae o:Nat)(aD:o≠0)(al:r+(4*ae:Nat)<=4611686018427370000)(a6:ae<=6)(v:List Value)(aN:∃(e:ByteArray) (c:Int) (d:Bool) (f g:Int),v=[.string e,.int .i64 c,.bool d,.int .i64 f,.int .i64 g])(s O:Bool)(ay:Ck)(ax:fM x bd S T D C ae o p v s O ay)(b:Nat)(t:Ck)(q:B0 x bd S D ay o s b t):
 Calls Tryz.prog 79 #[.pointer (some ⟨x,0,none⟩),.int .i64 o,.agg #[.string p.key,.int .i64 p.num]] w λaq w'=>aq=.returned (.tuple #[.int .i64 (b:Int),.agg v.toArray,.bool O])/\(∃(n:Int) (m:Nat->Prop),0<=n/\n<=27/\Cw w' x bd S m {D with reads:=r+n} t/\∀j,m j->T j\/w.heap.size<=j)/\Kept (λj=>j=bd\/T j) w w':=by
 have M:Hid _:=h;obtain⟨e,c,d,f,g,rfl⟩:=aN;change Hid _ at ax q;clear h;have a4:=M.disk.lt bd M.disk.bdS;have I:Hid _:=M.chg.lt;have ap:Hid _:=M.disk.lt;have ba:=beq_false_of_ne (by omega);have P:Hid _:=De w p;go_enter Tryz.func79,Tryz.ntmps79;go_wp2_with fail;generalize ((w.alloc (.cells #[.string p.key,.int .i64 p.num] 107)).alloc (.cells #[.string ⟨#[]⟩,.int .i64 0,.bool false,.int .i64 0,.int .i64 0] 109))=aC at*;have a5:=P.size;refine(ax.go aC r aj al (M.kept0 P.kept)).mono ?_;rintro aq a ⟨rfl,⟨ag,ad,az,a3,N,u⟩,E⟩;have a7:=E.size;have ak:Hid (∀j,w.heap.size<=j->¬(j=bd\/T j)):=λj l ac=>ac.elim (λh=>by omega) (λh=>by have:=I.out j h;omega);have ab:Hid (a.heap[w.heap.size+1]? =_):=(E.block _ (by omega) (ak _ (by omega))).trans P.res;change Hid _ at N u E;rcases q.out with⟨rfl,V,Y⟩|⟨rfl,F⟩
 case' inr=>
  change Hid _ at F
 case' inl=>
  change Hid _ at V Y
 all_goals
  clear q;go_wp2_with fail;have H:Hid (Kept (λ_=>False) a (a.alloc (.cells #[.string e,.int .i64 c,.bool d,.int .i64 f,.int .i64 g] 109))):=Kept.alloc _ _ _;have R:Hid ((a.alloc (.cells #[.string e,.int .i64 c,.bool d,.int .i64 f,.int .i64 g] 109)).heap[a.heap.size]? =some (.cells #[.string e,.int .i64 c,.bool d,.int .i64 f,.int .i64 g] 109 (0,0))):=heap_alloc_new a _;have a8:(a.alloc (.cells #[.string e,.int .i64 c,.bool d,.int .i64 f,.int .i64 g] 109)).heap.size=a.heap.size+1:=by simp
  generalize (a.alloc (.cells #[.string e,.int .i64 c,.bool d,.int .i64 f,.int .i64 g] 109))=A at*;have y:Hid (A.heap[w.heap.size+1]? =_):=(H.block _ (by omega) id).trans ab.out;have W:Hid _:=N.kept0 H.out;have K:Hid _:=((P.kept.mono fE).trans E iL).trans H fE;have a0:¬w.heap.size+1=a.heap.size:=by omega
  have G:Hid (∀(B:World) (n:Int) (m:Nat->Prop) (b:Nat) (t:Ck) (tmps:Array Value),0<=n->n<=27->Cw B x bd S m {D with reads:=r+n} t->(∀j,m j->T j\/aC.heap.size<=j)->Kept (λj=>j=bd\/T j) w B->B.heap[w.heap.size+1]? =some (.cells #[.string ⟨#[]⟩,.int .i64 0,.bool false,.int .i64 0,.int .i64 0] 109 (0,0))->tmps.getD 6 undef=.int .i64 (b:Int)->tmps.getD 7 undef=.pointer (some ⟨w.heap.size+1,0,none⟩)->tmps.getD 8 undef=.bool O->
   bodyPost Tryz.prog Tryz.f79 (λaq w'=>aq=.returned (.tuple #[.int .i64 (b:Int),.agg #[.string e,.int .i64 c,.bool d,.int .i64 f,.int .i64 g],.bool O])/\(∃(n:Int) (m:Nat->Prop),0<=n/\n<=27/\Cw w' x bd S m {D with reads:=r+n} t/\∀j,m j->T j\/w.heap.size<=j)/\Kept (λj=>j=bd\/T j) w w') .ret {tmps:=tmps,defers:=[]} (((((B.setCell ⟨w.heap.size+1,0,none⟩ (.string e)).setCell ⟨w.heap.size+1,1,none⟩ (.int .i64 c)).setCell ⟨w.heap.size+1,2,none⟩ (.bool d)).setCell ⟨w.heap.size+1,3,none⟩ (.int .i64 f)).setCell ⟨w.heap.size+1,4,none⟩ (.int .i64 g)).drew):=by
   intro B n m b t tmps aW aw aB U ai i aX aU aJ;obtain⟨au,ar⟩:=vK B (w.heap.size+1) 109 _ _ _ _ _ (.string e) (.int .i64 c) (.bool d) (.int .i64 f) (.int .i64 g) i;generalize (((((B.setCell ⟨w.heap.size+1,0,none⟩ (.string e)).setCell ⟨w.heap.size+1,1,none⟩ (.int .i64 c)).setCell ⟨w.heap.size+1,2,none⟩ (.bool d)).setCell ⟨w.heap.size+1,3,none⟩ (.int .i64 f)).setCell ⟨w.heap.size+1,4,none⟩ (.int .i64 g))=a2 at*;have an:=ar.trans (Kept.drew (λ_=>False) a2) fE;refine bodyPost_ret (jT rfl _ _ _ _ _ _ _ aU (show a2.drew.heap[w.heap.size+1]? =_ from au) Tryz.underlying109 rfl (by kernel_rfl)) rfl ⟨by rw [aX,aJ],⟨n,m,aW,aw,aB.kept an (λj l Z=>by have:=ap.out j l;omega) (λj l Z=>?_),λj l=>(U j l).imp id (λh=>by omega)⟩,ai.trans an (λj l=>.inr (by omega))⟩;rcases U j l with h|h;.have:=I.out j h;omega
   .omega
  have ah:Hid (∀B:World,B.heap[w.heap.size+1]? =some (.cells #[.string ⟨#[]⟩,.int .i64 0,.bool false,.int .i64 0,.int .i64 0] 109 (0,0))->B.cell? ⟨w.heap.size+1,0,none⟩=some (.string ⟨#[]⟩)/\B.cell? ⟨w.heap.size+1,1,none⟩=some (.int .i64 0)/\B.cell? ⟨w.heap.size+1,2,none⟩=some (.bool false)/\B.cell? ⟨w.heap.size+1,3,none⟩=some (.int .i64 0)/\B.cell? ⟨w.heap.size+1,4,none⟩=some (.int .i64 0)/\∀aE,B.frozen? ⟨w.heap.size+1,aE,none⟩=false):=λB i=>⟨cR i rfl,cR i rfl,cR i rfl,cR i rfl,cR i rfl,λaE=>aa B _ aE _ _ i⟩;have aA:Hid (∀B:World,B.heap[a.heap.size]? =some (.cells #[.string e,.int .i64 c,.bool d,.int .i64 f,.int .i64 g] 109 (0,0))->B.cell? ⟨a.heap.size,0,none⟩=some (.string e)/\B.cell? ⟨a.heap.size,1,none⟩=some (.int .i64 c)/\B.cell? ⟨a.heap.size,2,none⟩=some (.bool d)/\B.cell? ⟨a.heap.size,3,none⟩=some (.int .i64 f)/\B.cell? ⟨a.heap.size,4,none⟩=some (.int .i64 g)):=λB i=>⟨cR i rfl,cR i rfl,cR i rfl,cR i rfl,cR i rfl⟩
 .obtain⟨Z,aM,aH,aY,aO⟩:=aA.out A R.out;obtain⟨aR,aT,aQ,aG,aV,k⟩:=ah.out A y.out;have aS:=k 0;have aF:=k 1;have aK:=k 2;have aZ:=k 3;have aL:=k 4;clear k;try go_wp2_with fail
  go_region_held3 (λw'=>w'.cell? ⟨a.heap.size,0,none⟩=some (.string e)/\w'.cell? ⟨a.heap.size,1,none⟩=some (.int .i64 c)/\w'.cell? ⟨a.heap.size,2,none⟩=some (.bool d)/\w'.cell? ⟨a.heap.size,3,none⟩=some (.int .i64 f)/\w'.cell? ⟨a.heap.size,4,none⟩=some (.int .i64 g)) (go_keep) (fail);go_wp2;exact G A ag ad b t _ az (by omega) (by rw [Y.out];exact W) u K y (by rw [V.out];rfl) rfl rfl
 .refine(F A ad (r+ag) (by omega) (by omega) W).mono ?_;rintro aq B ⟨rfl,⟨a1,ao,aP,aI,X,Q⟩,z⟩;have am:Hid (∀j,ao j->T j\/aC.heap.size<=j):=λj l=>(Q j l).elim (u j) (λh=>.inr (by omega))
  have J:Hid (∀j,w.heap.size<=j->j<aC.heap.size\/j=a.heap.size->¬(j=bd\/ad j)):=λj l a9 ac=>by
   rcases ac with h|h;.omega
   .have bb:=N.chg.lt j h;rcases u j h with h|h;.have:=I.out j h;omega
    .omega
  have av:Hid (B.heap[a.heap.size]? =_):=(z.block _ (by omega) (J _ (by omega) (.inr rfl))).trans R.out;have L:Hid (B.heap[w.heap.size+1]? =_):=(z.block _ (by omega) (J _ (by omega) (.inl (by omega)))).trans y.out
  have af:Hid _:=K.trans z (λj l=>by
   rcases l with h|h;.exact .inl (.inl h)
   .exact(u j h).imp .inr (λh=>by omega))
  change Hid _ at X;clear Q z;obtain⟨Z,aM,aH,aY,aO⟩:=aA.out B av.out;obtain⟨aR,aT,aQ,aG,aV,k⟩:=ah.out B L.out;have aS:=k 0;have aF:=k 1;have aK:=k 2;have aZ:=k 3;have aL:=k 4;clear k;go_wp2_with fail;go_region_held3 (λw'=>w'.cell? ⟨a.heap.size,0,none⟩=some (.string e)/\w'.cell? ⟨a.heap.size,1,none⟩=some (.int .i64 c)/\w'.cell? ⟨a.heap.size,2,none⟩=some (.bool d)/\w'.cell? ⟨a.heap.size,3,none⟩=some (.int .i64 f)/\w'.cell? ⟨a.heap.size,4,none⟩=some (.int .i64 g)) (go_keep) (fail);go_wp2;exact G B (ag+a1) ao b t _ (by omega) (by omega) (by rw [<-eG];exact X) am af L rfl rfl rfl
def Dg(bc bd:Nat)(S:Nat->Prop)(D:Dk)(C1:Ck)(es:List En)(c at_:Nat)(s ok s2 ok2:Bool)(C3:Ck):Prop:=
 (s=false/\s2=false/\ok2=ok/\C3=C1)\/
  (s=true/\ok2=true/\∃es2 C2,QD bc bd S D C1 es c es2 C2/\(∀x∈es2,x.Ok)/\es2.length<=6/\C2.ws.length<1000/\decide ((es2.length:Int)<3)=s2/\C3=C2.put at_ (zo (zc 4 es2)))
theorem uX(w:World)(y bd:Nat)(S T:Nat->Prop)(D:Dk)(C:Ck)(h:Cw w y bd S T D C)(bW:0<=D.reads)(cL:D.reads<=4611686018427370000)(K:Nat)(b1:K<65536)(i:List En)(a2:∀e∈i,e.Ok)(bT:∀e∈i,e.mark=false/\e.size=0)(ba:i.length<=6)(bJ:xi i)(bX:C.look D K=zo (zc 4 i))(p:Pl)(M:Nat)(c4:M<=1000)(v:List Value)(aK:∃(O:ByteArray) (N:Int) (U:Bool) (P Q:Int),v=[.string O,.int .i64 N,.bool U,.int .i64 P,.int .i64 Q])(s aI:Bool)(ar:Ck)(c:Nat)(A:zK i p=c)(b9:c<i.length)(aw:Dd y bd S T D C i[c].at_ p M v s aI ar)(aL aH:Bool)(aJ:Ck)(ap:Dg y bd S D ar i c K s aI aL aH aJ):
 Calls Tryz.prog 141 #[.pointer (some ⟨y,0,none⟩),.int .i64 K,.agg #[.string p.key,.int .i64 p.num]] w λcD w'=>cD=.returned (.tuple #[.agg v.toArray,.bool aL,.bool aH])/\(∃(n:Int) (aF:Nat->Prop),0<=n/\n<=M+4/\Cw w' y bd S aF {D with reads:=D.reads+n} aJ/\∀j,aF j->T j\/w.heap.size<=j)/\Kept (λj=>j=bd\/T j) w w':=by
 have cG:Hid _:=h;have bD:Hid _:=A;have aE:Hid (Dd y bd S T D C i[c].at_ p M v s aI ar):=aw;have am:Hid (Dg y bd S D ar i c K s aI aL aH aJ):=ap;have cM:bd<w.heap.size:=h.disk.lt bd h.disk.bdS;have Y:Hid (∀j,T j->j<w.heap.size):=h.chg.lt;have aq:Hid (∀j,S j->j<w.heap.size):=h.disk.lt;obtain⟨O,N,U,P,Q,rfl⟩:=aK;change Hid _ at a2 bT bJ bX;clear h A aw ap;have aA:Hid _:=De w p;go_enter Tryz.func141,Tryz.ntmps141;go_wp2_with fail;generalize ((w.alloc (.cells #[.string p.key,.int .i64 p.num] 107)).alloc (.cells #[.string ⟨#[]⟩,.int .i64 0,.bool false,.int .i64 0,.int .i64 0] 109))=cb at*;refine(yR cb y bd S T D C (cG.kept0 aA.kept) bW (by omega) K b1 4 i (.inl rfl) a2 (λ_=>bT) ba bX).mono ?_;rintro r d ⟨a,cap,rfl,⟨R,bL,br,a8⟩,ae,J,I,aC⟩;have bF:Hid (Cw d y bd S T {D with reads:=D.reads+R} C):=a8;have bt:Hid (Kept (λj=>j=bd) cb d):=ae;have bu:Hid (d.ownsRow 0 109 5 (.slice a i.length cap) i.length (zj i)):=I;have cN:=aA.size;have cm:=ae.size;have ak:Hid (d.heap[w.heap.size]? =_):=(ae.block _ (by omega) (by omega)).trans aA.pl;have bk:Hid (d.heap[w.heap.size+1]? =_):=(ae.block _ (by omega) (by omega)).trans aA.res;obtain⟨g,cY,rfl⟩:=J.base (by omega)
 obtain rfl:cY=0:=by
  rcases I.2 with⟨cC,_⟩|⟨c2,cj,cK,aK,_⟩;.cases cC
  .simp only [Value.slice.injEq,iA,Addr.mk.injEq] at aK;exact aK.1.2.1
 have cX:cb.heap.size<=g:=aC g rfl;have cP:g<d.heap.size:=(I.lt g rfl).2;change Hid _ at J;clear a8 ae I aC;have cg:d.cell? ⟨w.heap.size,0,none⟩=some (.string p.key):=cR ak.out rfl;have cw:d.cell? ⟨w.heap.size,1,none⟩=some (.int .i64 p.num):=cR ak.out rfl;have cy:w.heap.size<d.heap.size:=by omega
 go_wp2_with fail;have aY:Hid (Kept (λ_=>False) d (d.alloc (.cells #[.int .u8 4,.slice (some ⟨g,0,none⟩) i.length cap] 209))):=Kept.alloc _ _ _;have bU:Hid ((d.alloc (.cells #[.int .u8 4,.slice (some ⟨g,0,none⟩) i.length cap] 209)).heap[d.heap.size]? =some (.cells #[.int .u8 4,.slice (some ⟨g,0,none⟩) i.length cap] 209 (0,0))):=heap_alloc_new d _;have cW:(d.alloc (.cells #[.int .u8 4,.slice (some ⟨g,0,none⟩) i.length cap] 209)).heap.size=d.heap.size+1:=by simp
 generalize (d.alloc (.cells #[.int .u8 4,.slice (some ⟨g,0,none⟩) i.length cap] 209))=ch at*;refine(uJ ch _ _ cap i (J.kept aY nF) bJ 4 p).mono ?_;rintro r l ⟨rfl,ao⟩;rw [bD.out];have W:Hid (Kept (λ_=>False) d l):=aY.trans ao iL;have cr:=ao.size;have av:Hid (l.heap[d.heap.size]? =_):=(ao.block _ (by omega) id).trans bU.out;have al:Hid (l.heap[w.heap.size]? =_):=(W.block _ (by omega) id).trans ak.out;have bl:Hid (l.heap[w.heap.size+1]? =_):=(W.block _ (by omega) id).trans bk.out;have bR:Hid (ql l (λb=>cb.heap.size<=b) (some ⟨g,0,none⟩) i):=J.kept W nF;clear ao cg cw;obtain⟨-, -, -, -, bb, -, -⟩:=bR.cells c b9;simp only [aV] at bb;have aT:Hid (∀w0:World,Cw w0 y bd S T {D with reads:=D.reads+R} C->_):=λw0 b0=>aE.go w0 R bL br b0;generalize i[c].at_=be at*;have cv:l.cell? ⟨w.heap.size,0,none⟩=some (.string p.key):=cR al.out rfl;have ck:l.cell? ⟨w.heap.size,1,none⟩=some (.int .i64 p.num):=cR al.out rfl;have ct:l.cell? ⟨d.heap.size,1,none⟩=some (.slice (some ⟨g,0,none⟩) i.length cap):=cR av.out rfl;have bZ:Hid (l.cell? ⟨g,c*5+4,none⟩=some (.int .i64 (be:Int))):=bb;have cI:(c:Int)<(i.length:Int):=by omega
 have ac:Hid (∀j,w.heap.size<=j->¬(j=bd\/T j)):=λj f A=>A.elim (λh=>by omega) (λh=>by have:=Y.out j h;omega);have bh:Hid (Cw l.drew y bd S T {D with reads:=D.reads+R} C):=(bF.kept0 W).kept0 (Kept.drew _ l);have bj:Hid (Kept (λj=>j=bd\/T j) w l):=((aA.kept.mono fE).trans bt (λ_ h=>.inl (.inl h))).trans W fE;have b5:Hid (l.ownsRow 0 109 5 (.slice (some ⟨g,0,none⟩) i.length cap) i.length (zj i)):=W.owns bu nF;have cV:¬w.heap.size+1=d.heap.size:=by omega
 have cT:¬w.heap.size+1=g:=by omega
 have co:¬d.heap.size=w.heap.size+1:=by omega
 go_wp2_with fail;go_region_held3 (λw'=>w'.cell? ⟨d.heap.size,1,none⟩=some (.slice (some ⟨g,0,none⟩) i.length cap)/\w'.cell? ⟨g,c*5+4,none⟩=some (.int .i64 (be:Int))/\w'.cell? ⟨w.heap.size,0,none⟩=some (.string p.key)/\w'.cell? ⟨w.heap.size,1,none⟩=some (.int .i64 p.num)) (go_keep) ((go_at_call 141;refine(aT _ (by exact bh)).mono ?_;rintro r o ⟨rfl,⟨aj,ab,cs,cc,aU,a7⟩,a5⟩;have bA:Hid (Cw o y bd S ab {D with reads:=D.reads+R+aj} ar):=aU;have Z:Hid (∀j,ab j->T j\/l.heap.size<=j):=a7;have z:Hid (Kept (λj=>j=bd\/T j) l o):=((Kept.drew (λ_=>False) l).mono fE).trans a5 iL;have aB:Hid (o.heap[d.heap.size]? =some (.cells #[.int .u8 4,.slice (some ⟨g,0,none⟩) i.length cap] 209 (0,0))):=(z.block _ (show d.heap.size<l.heap.size by omega) (ac _ (by omega))).trans av.out;have au:Hid (o.heap[w.heap.size]? =some (.cells #[.string p.key,.int .i64 p.num] 107 (0,0))):=(z.block _ (show w.heap.size<l.heap.size by omega) (ac _ (by omega))).trans al.out;have m:Hid (o.heap[w.heap.size+1]? =some (.cells #[.string ⟨#[]⟩,.int .i64 0,.bool false,.int .i64 0,.int .i64 0] 109 (0,0))):=(z.block _ (show w.heap.size+1<l.heap.size by omega) (ac _ (by omega))).trans bl.out;have bM:o.cell? ⟨d.heap.size,1,none⟩=some (.slice (some ⟨g,0,none⟩) i.length cap):=(cR aB.out rfl);have bz:o.cell? ⟨g,c*5+4,none⟩=some (.int .i64 (be:Int)):=(z.cell (a:=⟨g,c*5+4,none⟩) (show g<l.heap.size by omega) (ac g (by omega))).trans bZ.out;have bK:o.cell? ⟨w.heap.size,0,none⟩=some (.string p.key):=(cR au.out rfl);have bx:o.cell? ⟨w.heap.size,1,none⟩=some (.int .i64 p.num):=(cR au.out rfl);have cf:l.heap.size<=o.heap.size:=z.size;have cB:o.cell? ⟨w.heap.size+1,0,none⟩=some (.string ⟨#[]⟩):=(cR m.out rfl);have cE:o.cell? ⟨w.heap.size+1,1,none⟩=some (.int .i64 0):=(cR m.out rfl);have cx:o.cell? ⟨w.heap.size+1,2,none⟩=some (.bool false):=(cR m.out rfl);have cd:o.cell? ⟨w.heap.size+1,3,none⟩=some (.int .i64 0):=(cR m.out rfl);have cF:o.cell? ⟨w.heap.size+1,4,none⟩=some (.int .i64 0):=(cR m.out rfl);have b2:=aa o (w.heap.size+1) 0 _ _ m.out;have bS:=aa o (w.heap.size+1) 1 _ _ m.out;have bv:=aa o (w.heap.size+1) 2 _ _ m.out;have b8:=aa o (w.heap.size+1) 3 _ _ m.out;have bw:=aa o (w.heap.size+1) 4 _ _ m.out;clear aU a7 a5;dsimp only));obtain⟨q,V⟩:=vK o (w.heap.size+1) 109 _ _ _ _ _ (.string O) (.int .i64 N) (.bool U) (.int .i64 P) (.int .i64 Q) m.out;change Hid _ at q V;clear cB cE cx cd cF b2 bS bv b8 bw cv ck ct bM bb bz bK bx aT aE;generalize (((((o.setCell ⟨w.heap.size+1,0,none⟩ (.string O)).setCell ⟨w.heap.size+1,1,none⟩ (.int .i64 N)).setCell ⟨w.heap.size+1,2,none⟩ (.bool U)).setCell ⟨w.heap.size+1,3,none⟩ (.int .i64 P)).setCell ⟨w.heap.size+1,4,none⟩ (.int .i64 Q))=X at*;have cS:=V.size
 have an:Hid (∀j,S j\/ab j->j≠w.heap.size+1):=λj f ag=>by
  rcases f with h|h;.have:=aq.out j h;omega
  .rcases Z j h with h|h;.have:=Y.out j h;omega
   .omega
 have aO:Hid (Cw X y bd S ab {D with reads:=D.reads+R+aj} ar):=bA.kept V (λj f=>an j (.inl f)) (λj f=>an j (.inr f));have aD:Hid (Kept (λj=>j=bd\/T j) w X):=(bj.trans z iL).trans V (λj f=>.inr (by omega));have ah:Hid (X.heap[d.heap.size]? =_):=(V.block _ (by omega) (by omega)).trans aB.out;rcases am.out with⟨rfl,rfl,rfl,rfl⟩|⟨rfl,rfl,x,bG,aR,ax,bQ,bf,aS,a4⟩
 .have ce:X.cell? ⟨w.heap.size+1,0,none⟩=some (.string O):=cR q.out rfl;have cu:X.cell? ⟨w.heap.size+1,1,none⟩=some (.int .i64 N):=cR q.out rfl;have cz:X.cell? ⟨w.heap.size+1,2,none⟩=some (.bool U):=cR q.out rfl;have cA:X.cell? ⟨w.heap.size+1,3,none⟩=some (.int .i64 P):=cR q.out rfl;have cq:X.cell? ⟨w.heap.size+1,4,none⟩=some (.int .i64 Q):=cR q.out rfl;have b2:=aa X (w.heap.size+1) 0 _ _ q.out;have bS:=aa X (w.heap.size+1) 1 _ _ q.out;have bv:=aa X (w.heap.size+1) 2 _ _ q.out;have b8:=aa X (w.heap.size+1) 3 _ _ q.out;have bw:=aa X (w.heap.size+1) 4 _ _ q.out;go_wp2;obtain⟨b7,F⟩:=vK X (w.heap.size+1) 109 _ _ _ _ _ (.string O) (.int .i64 N) (.bool U) (.int .i64 P) (.int .i64 Q) q.out;refine bodyPost_ret (xB rfl _ _ _ _ _ _ _ rfl b7 Tryz.underlying109 rfl (by kernel_rfl)) rfl ⟨rfl,⟨R+aj,ab,by omega,by omega,?_,λj f=>(Z j f).imp id (λh=>by omega)⟩,aD.trans F (λj f=>.inr (by omega))⟩;have:=aO.kept F (λj f=>an j (.inl f)) (λj f=>an j (.inr f));rw [eG] at this;exact this
 .have bo:Hid _:=ax;have bY:Hid _:=ac.out g (by omega);have bN:Hid _:=V.owns (z.owns b5 (λj f A=>by simp [Value.ownBlock] at f;subst f;exact bY A)) (λj f ag=>by simp [Value.ownBlock] at f;omega)
  have b6:Hid (Calls Tryz.prog 180 #[.agg #[.int .u8 4,.slice (some ⟨g,0,none⟩) i.length cap],.pointer (some ⟨y,0,none⟩),.int .i64 c] X λcD w'=>cD=.returned (.agg #[.int .u8 4,.slice (some ⟨g,0,none⟩) x.length cap])/\w'.ownsRow 0 109 5 (.slice (some ⟨g,0,none⟩) x.length cap) x.length (zj x)/\(∃(n:Int) (aF:Nat->Prop),0<=n/\n<=3/\Cw w' y bd S aF {D with reads:=D.reads+R+aj+n} bG/\∀j,aF j->ab j\/X.heap.size<=j)/\Kept (λj=>j=bd\/ab j\/j=g) X w'):=
   aR.go X ab (D.reads+R+aj) g cap (by omega) (by omega) aO bN (λcH=>by have:=aq.out g cH;omega) (λcl=>by
    rcases Z g cl with h|h;.have:=Y.out g h;omega
    .omega)
  change Hid _ at aS a4;clear ax aR am;have bq:X.cell? ⟨d.heap.size,0,none⟩=some (.int .u8 4):=cR ah.out rfl;have p1:X.cell? ⟨d.heap.size,1,none⟩=some (.slice (some ⟨g,0,none⟩) i.length cap):=cR ah.out rfl;go_wp2_with fail;refine b6.mono ?_;rintro r H ⟨rfl,aP,⟨bC,bc,cn,ci,a3,a0⟩,ad⟩;have az:Hid (∀j,bc j->T j\/l.heap.size<=j):=λj f=>(a0 j f).elim (Z j) (λh=>.inr (by omega))
  have ay:Hid (∀j,w.heap.size<=j->j<l.heap.size->¬ab j):=λj aM cp A=>by
   rcases Z j A with h|h;.have:=Y.out j h;omega
   .omega
  have ai:Hid (∀j,w.heap.size<=j->j<l.heap.size->¬bc j):=λj aM cp A=>by
   rcases az j A with h|h;.have:=Y.out j h;omega
   .omega
  have L:Hid (H.heap[d.heap.size]? =_):=(ad.block _ (by omega) (λA=>by
   rcases A with h|h|h;.omega
   .exact ay _ (by omega) (by omega) h
   .omega)).trans ah.out
  have bi:Hid (H.heap[w.heap.size+1]? =_):=(ad.block _ (by omega) (λA=>by
   rcases A with h|h|h;.omega
   .exact ay _ (by omega) (by omega) h
   .omega)).trans q.out
  have bm:Hid _:=aD.trans ad (λj f=>by
   rcases f with h|h|h;.exact .inl (.inl h)
   .rcases Z j h with h|h;.exact .inl (.inr h)
    .exact .inr (by omega)
   .exact .inr (by omega))
  have cO:=ad.size;change Hid _ at aP a3;clear a0 ad bq p1;have bq:H.cell? ⟨d.heap.size,0,none⟩=some (.int .u8 4):=cR L.out rfl;have p1:H.cell? ⟨d.heap.size,1,none⟩=some (.slice (some ⟨g,0,none⟩) i.length cap):=cR L.out rfl;have bI:=aa H d.heap.size 0 _ _ L.out;have bV:=aa H d.heap.size 1 _ _ L.out;go_wp2_with fail;have aN:=heap_setCell_same H d.heap.size 0 _ _ (.int .u8 4) L.out;have bB:Hid (((H.setCell ⟨d.heap.size,0,none⟩ (.int .u8 4)).setCell ⟨d.heap.size,1,none⟩ (.slice (some ⟨g,0,none⟩) x.length cap)).heap[d.heap.size]? =some (.cells #[.int .u8 4,.slice (some ⟨g,0,none⟩) x.length cap] 209 (0,0))):=heap_setCell_same _ d.heap.size 1 _ _ _ aN;have af:Hid (Kept (λj=>j=d.heap.size) H ((H.setCell ⟨d.heap.size,0,none⟩ (.int .u8 4)).setCell ⟨d.heap.size,1,none⟩ (.slice (some ⟨g,0,none⟩) x.length cap))):=(Kept.setCell (S:=λj=>j=d.heap.size) H ⟨d.heap.size,0,none⟩ _ rfl).trans (Kept.setCell (S:=λj=>j=d.heap.size) _ ⟨d.heap.size,1,none⟩ _ rfl) iL;generalize ((H.setCell ⟨d.heap.size,0,none⟩ (.int .u8 4)).setCell ⟨d.heap.size,1,none⟩ (.slice (some ⟨g,0,none⟩) x.length cap))=cJ at*;clear bq p1 bI bV aN;have cU:=af.size;have a9:Hid (cJ.heap[w.heap.size+1]? =_):=(af.block _ (by omega) (by omega)).trans bi.out;have bE:Hid _:=af.owns aP (λj f ag=>by simp [Value.ownBlock] at f;omega);have bP:Hid _:=ql.of_own bE (λj f=>by simp [Value.ownBlock] at f;exact f.symm) (by omega);have ca:Hid _:=a3.kept af (λj f ag=>by have:=aq.out j f;omega) (λj f ag=>ai d.heap.size (by omega) (by omega) (by rw [<-show j=d.heap.size from ag];exact f));refine(v8 cJ y bd S bc _ bG ca _ _ cap 4 (.inl rfl) x bP bo bQ K bf _ rfl).mono ?_;rintro r B ⟨rfl,⟨bg,aQ,aW⟩,F⟩;have bs:Hid (Cw B y bd S bg {D with reads:=D.reads+R+aj+bC} aJ):=by rw [a4.out];exact aQ
  have a1:Hid (∀j,bg j->T j\/l.heap.size<=j):=λj f=>(aW j f).elim (az j) (λh=>.inr (by omega));have aG:Hid (B.heap[d.heap.size]? =_):=(F.block _ (by omega) (ai _ (by omega) (by omega))).trans bB.out;have E:Hid (B.heap[w.heap.size+1]? =some (.cells #[.string O,.int .i64 N,.bool U,.int .i64 P,.int .i64 Q] 109 (0,0))):=(F.block _ (by omega) (ai _ (by omega) (by omega))).trans a9.out;have bp:Hid _:=(bm.trans af (λj f=>.inr (by omega))).trans F (λj f=>(az j f).imp .inr (λh=>by omega));have cQ:=F.size;clear aQ aW F
  have bn:Hid (∀u,Calls Tryz.prog 182 #[.agg #[.int .u8 4,.slice (some ⟨g,0,none⟩) x.length cap]] u λe w'=>e=.returned (.bool aL)/\Kept (λ_=>False) u w'):=λu=>by have:=QB u 4 (.inl rfl) (some ⟨g,0,none⟩) x.length cap;rw [aS.out] at this;exact this
  have bO:Hid (∀u,Kept (λ_=>False) B u->u.heap[w.heap.size+1]? =some (.cells #[.string O,.int .i64 N,.bool U,.int .i64 P,.int .i64 Q] 109 (0,0))):=λu k=>(k.block _ (by omega) id).trans E.out;have ce:B.cell? ⟨w.heap.size+1,0,none⟩=some (.string O):=cR E.out rfl;have cu:B.cell? ⟨w.heap.size+1,1,none⟩=some (.int .i64 N):=cR E.out rfl;have cz:B.cell? ⟨w.heap.size+1,2,none⟩=some (.bool U):=cR E.out rfl;have cA:B.cell? ⟨w.heap.size+1,3,none⟩=some (.int .i64 P):=cR E.out rfl;have cq:B.cell? ⟨w.heap.size+1,4,none⟩=some (.int .i64 Q):=cR E.out rfl;have c6:B.cell? ⟨d.heap.size,0,none⟩=some (.int .u8 4):=cR aG.out rfl;have c0:B.cell? ⟨d.heap.size,1,none⟩=some (.slice (some ⟨g,0,none⟩) x.length cap):=cR aG.out rfl;go_wp2_with fail
  go_region_law (go_simp;go_at_call 182;refine(bn B.drew).mono ?_;rintro r G ⟨rfl,aZ⟩;have aX:Hid _:=(Kept.drew (λ_=>False) B).trans aZ iL;have t:=bO.out G aX.out;have u0:G.cell? ⟨w.heap.size+1,0,none⟩=some (.string O):=(cR t rfl);have u1:G.cell? ⟨w.heap.size+1,1,none⟩=some (.int .i64 N):=(cR t rfl);have u2:G.cell? ⟨w.heap.size+1,2,none⟩=some (.bool U):=(cR t rfl);have u3:G.cell? ⟨w.heap.size+1,3,none⟩=some (.int .i64 P):=(cR t rfl);have u4:G.cell? ⟨w.heap.size+1,4,none⟩=some (.int .i64 Q):=(cR t rfl);have c1:=aa G (w.heap.size+1) 0 _ _ t;have c3:=aa G (w.heap.size+1) 1 _ _ t;have c5:=aa G (w.heap.size+1) 2 _ _ t;have cZ:=aa G (w.heap.size+1) 3 _ _ t;have b4:=aa G (w.heap.size+1) 4 _ _ t;change Hid _ at t;clear aZ;dsimp only)
  all_goals
   go_wp2;obtain⟨bH,b3⟩:=vK G (w.heap.size+1) 109 _ _ _ _ _ (.string O) (.int .i64 N) (.bool U) (.int .i64 P) (.int .i64 Q) t.out;have a6:=(aX.mono (S':=λj=>j=w.heap.size+1) fE).trans b3 iL;refine bodyPost_ret (xB rfl _ _ _ _ _ _ _ rfl bH Tryz.underlying109 rfl (by kernel_rfl)) rfl ⟨rfl,⟨R+aj+bC,bg,by omega,by omega,?_,λj f=>(a1 j f).imp id (λh=>by omega)⟩,bp.trans a6 (λj f=>.inr (by omega))⟩
   have:=bs.kept a6 (λj f ag=>by have:=aq.out j f;omega) (λj f ag=>by
    rcases a1 j f with aM|aM;.have:=Y.out j aM;omega
    .omega)
   simp only [eG] at this ⊢;exact this
end prog
namespace prog
open ref
variable {b h:Nat}{p q p1 p2:Pl}
def Tr.join:{h:Nat}->Tr h->Tr h->Tr h
 |0,u,v=>(u.1,u.2++v.2)
 |_+1,u,v=>(u.1,u.2++v.2)
def Tr.cutL(m:Nat):{h:Nat}->Tr h->Tr h
 |0,u=>(u.1,u.2.take m)
 |_+1,u=>(u.1,u.2.take m)
def Tr.cutR(m b:Nat):{h:Nat}->Tr h->Tr h
 |0,u=>(b,u.2.drop m)
 |_+1,u=>(b,u.2.drop m)
theorem Dh:∀{h:Nat} (u v:Tr h),(u.join v).blk=u.blk
 |0,_,_=>rfl
 |_+1,_,_=>rfl
theorem jB:∀{h:Nat} (u v:Tr h),(u.join v).items=u.items++v.items
 |0,_,_=>rfl
 |_+1,u,v=>eh
theorem vE:∀{h:Nat} (u v:Tr h),(u.join v).ents=u.ents++v.ents
 |0,_,_=>rfl
 |h+1,u,v=>zC u.2 v.2
theorem uq:∀{h:Nat} (u v:Tr h),((u.join v).blocks++[v.blk]).Perm (u.blocks++v.blocks)
 |0,u,v=>eN _
 |h+1,u,v=>by show (u.1::zF (u.2++v.2)++[v.1]).Perm (u.1::zF u.2++v.1::zF v.2);rw [qz];refine List.Perm.trans ?_ List.perm_middle.symm;exact eZ (l₂:=[v.1])
theorem Vi(m b:Nat):∀{h:Nat} (u:Tr h),(u.cutL m).blk=u.blk/\(u.cutR m b).blk=b
 |0,_=>⟨rfl,rfl⟩
 |_+1,_=>⟨rfl,rfl⟩
theorem QE(m b:Nat):∀{h:Nat} (u:Tr h),(u.cutL m).items=u.items.take m/\(u.cutR m b).items=u.items.drop m
 |0,_=>⟨rfl,rfl⟩
 |_+1,u=>⟨i4,my⟩
theorem Di(m b:Nat):∀{h:Nat} (u:Tr h),(u.cutL m).ents++(u.cutR m b).ents=u.ents
 |0,u=>aA m u.2
 |h+1,u=>by show zM (u.2.take m)++zM (u.2.drop m)=zM u.2;rw [<-zC,aA]
theorem Kq(m b:Nat):∀{h:Nat} (u:Tr h),((u.cutL m).blocks++(u.cutR m b).blocks).Perm (u.blocks++[b])
 |0,u=>eN _
 |h+1,u=>by show (u.1::zF (u.2.take m)++b::zF (u.2.drop m)).Perm (u.1::zF u.2++[b]);refine List.perm_middle.trans ?_;rw [a9,<-qz,aA];exact eZ (l₁:=[b])
theorem QF:∀{h:Nat} {u v:Tr h} {p:Pl},u.Good->v.Good->v.First p->(∀e∈u.ents,e.pl.lt p=true)->(u.join v).Good
 |0,u,v,p,gu,gv,_,_=>⟨gu.1,λe b=>(aj.1 b).elim (gu.2 e) (gv.2 e)⟩
 |h+1,u,v,p,gu,gv,⟨v0,r,hv⟩,hlt=>by
  have f:=gu.kids;have g:=gv.kids
  have j:∀a∈u.2,a.1.lt p=true:=λa d=>by obtain⟨e,b⟩:=(f.good a d).1.some_ent (by have:=gu.full a d;omega);obtain⟨A,B,i⟩:=li d;obtain⟨q,t⟩:=a;have:=(f.seps A q t B i).2.1 e (by rw [zp];exact ac _ b);exact Pl.lt_of_not this (hlt e (uK d b))
  have k:Kids (u.2++v.2):=by rw [hv] at g ⊢;exact f.join g hlt j
  exact k.node (λc l=>(aj.1 l).elim (gu.full c) (gv.full c)) gu.1
theorem Kr:∀{h:Nat} {u v:Tr h} {p:Pl},u.First p->(u.join v).First p
 |0,_,_,_,_=>eR
 |h+1,u,v,p,⟨u0,r,hu⟩=>⟨u0,r++v.2,by show u.2++v.2=_;rw [hu];rfl⟩
theorem Dj(m b:Nat)(f:b<65536):∀{h:Nat} {u:Tr h},u.Good->(u.cutL m).Good/\(u.cutR m b).Good
 |0,u,g=>⟨⟨g.1,λe a=>g.2 e (aJ a)⟩,⟨f,λe a=>g.2 e (eJ a)⟩⟩
 |h+1,u,g=>by
  have k:Kids (u.2.take m++u.2.drop m):=by rw [aA];exact g.kids
  exact⟨k.left.node (λc d=>g.full c (aJ d)) g.1,k.right.node (λc d=>g.full c (eJ d)) f⟩
theorem Us{m:Nat}(a:1<=m):∀{h:Nat} {u:Tr h} {p:Pl},u.First p->(u.cutL m).First p
 |0,_,_,_=>eR
 |h+1,u,p,⟨u0,r,hu⟩=>⟨u0,r.take (m-1),by
  show u.2.take m=_
  rw [hu,show m=(m-1)+1 from by omega,iB];rfl⟩
theorem Dl{m:Nat}(f:En):∀{h:Nat} {u:Tr h},u.Good->xi u.ents->m<u.items.length->(u.cutR m b).First (u.items.getD m f).pl/\(u.items.getD m f).pl.Ok/\(∀e∈(u.cutL m).ents,e.pl.lt (u.items.getD m f).pl=true)/\(∀e∈(u.cutR m b).ents,¬e.pl.lt (u.items.getD m f).pl=true)
 |0,u,g,hs,hm=>by
  have c:m<u.2.length:=hm;have i:u.items.getD m f=u.2[m]:=by show u.2.getD m f=_;rw [aE,aI c];rfl
  have d:u.2.drop m=u.2[m]::u.2.drop (m+1):=aL c;have k:xi (u.2.take m++u.2[m]::u.2.drop (m+1)):=by rw [<-d,aA];exact hs
  have j:=ep.1 k;rw [i];refine⟨eR,(g.2 _ (ag c)).pl,λe a=>j.2.2 e a _ (am ..),λe a=>?_⟩;have a:e∈u.2.drop m:=a;rw [d] at a;rcases aq.1 a with rfl|a;.exact Pl.irrefl _
  .exact Pl.asymm ((aR.1 j.2.1).1 e a)
 |h+1,u,g,hs,hm=>by
  have c:m<u.2.length:=by rw [xf] at hm;exact hm
  have i:(u.items.getD m f).pl=u.2[m].1:=by rw [aE,aI hm];simp [Tr.items]
  have d:=aL c;have l:Kids (u.2.take m++(u.2[m].1,u.2[m].2)::u.2.drop (m+1)):=by rw [<-d,aA];exact g.kids
  obtain⟨t,r,n,o,s,p,q⟩:=l.mid;rw [i];refine⟨⟨_,_,d⟩,(l.right.good _ (am ..)).2.2,n,λe a=>o e ?_⟩;rw [<-d];exact a
structure Zu {h:Nat} (t:Tr h) (p:Pl) (t':Tr h):Prop where
 blk:t'.blk=t.blk
 good:t'.Good
 lo:t.items.length<=t'.items.length+1
 hi:t'.items.length<=6
 ents:t'.ents=ye p t.ents
 first:∀q,t.First q->t'.First q
theorem xi.erase{l:List En}(h:xi l)(p:Pl)(b:zr l p<l.length)(a:l[zr l p].pl=p):l.eraseIdx (zr l p)=ye p l:=by
 rw [lD];exact(h.find p).1 b a
theorem Ut{a:List En}(g:Tr.Good (h:=0) (b,a))(e:xi a)(j:a.length<=6)(c:zr a p<a.length)(d:a[zr a p].pl=p):Zu (h:=0) (b,a) p (b,ye p a):=by
 have k:(ye p a).length+1=a.length:=by rw [<-e.erase p c d,iP c];omega
 refine⟨rfl,⟨g.1,λi f=>g.2 i (cq.1 f).1⟩,?_,?_,rfl,λ_ _=>eR⟩;.show a.length<=(ye p a).length+1;omega
 .show (ye p a).length<=6;omega
theorem Kids.unroute{A B:List (Pl×Tr h)}{tc:Tr h}(k:Kids (A++(q,tc)::B))(l:A≠[]->¬p.lt q=true)(m:∀b∈B,p.lt b.1=true):
 (∀d∈zM A,d.pl≠p)/\(∀d∈zM B,d.pl≠p):=by
 obtain⟨t,r,j,u,s,o,i⟩:=k.mid;refine⟨λd a e=>?_,λd a e=>?_⟩
 .have n:A≠[]:=λg=>by rw [g] at a;simp [zM] at a
  exact l n (e▸j d a)
 .obtain⟨c,f,a⟩:=Gx a;exact i c f d a (e▸m c f)
theorem uY{A B:List (Pl×Tr h)}{tc tc':Tr h}(d:Kids (A++(q,tc)::B))(l:A≠[]->¬p.lt q=true)(o:∀b∈B,p.lt b.1=true)(k:Zu tc p tc'):
 Kids (A++(q,tc')::B)/\zM (A++(q,tc')::B)=ye p (zM (A++(q,tc)::B)):=by
 obtain⟨u,s,t,n,i,f,r⟩:=d.mid;have e:∀c∈tc'.ents,c∈tc.ents:=λc a=>by rw [k.ents] at a;exact(cq.1 a).1
 refine⟨d.swap k.good k.hi (k.first _ i) (λc a=>n c (by rw [zp];exact ac _ (e c a))) (λb j c a=>f b j c (af _ (e c a))),?_⟩;obtain⟨m,g⟩:=d.unroute l o;rw [zC,zp,zC,zp,kN,kN,j6 m,j6 g,k.ents]
theorem Jd{A B:List (Pl×Tr h)}{tc tc':Tr h}(g:Tr.Good (h:=h+1) (b,A++(q,tc)::B))(f:(A++(q,tc)::B).length<=6)(l:A≠[]->¬p.lt q=true)(n:∀b∈B,p.lt b.1=true)(k:Zu tc p tc')(j:3<=tc'.items.length):
 Zu (h:=h+1) (b,A++(q,tc)::B) p (b,A++(q,tc')::B):=by
 obtain⟨m,i⟩:=uY g.kids l n k;have d:=g.full;simp only at d;refine⟨rfl,m.node (λc a=>?_) g.1,?_,?_,i,λp e=>j7 e⟩
 .rcases aj.1 a with a|a;.exact d c (ac _ a)
  .rcases aq.1 a with rfl|a;.exact j
   .exact d c (by simp [a])
 .rw [zA,zA];simp
 .rw [zA];simpa using f
theorem Kids.less{X l:List (Pl×Tr h)}{u v:Tr h}(k:Kids (X++(p1,u)::(p2,v)::l)):Kids (X++(p1,u)::l):=by
 obtain⟨n,i,j,p,m,g,q⟩:=k.mid;have f:=k.right;have d:=f.good (p1,u) (am ..);have o:Kids l:=Kids.right (A:=[(p1,u),(p2,v)]) f;refine k.left.join (o.cons d.1 d.2.1 d.2.2 m (λe c=>p e (by rw [zp];exact ac _ c)) (λb a=>i b (al _ a)) (λb a e c=>g b (al _ a) e (af _ c))) j n
theorem Kids.pair{X g:List (Pl×Tr h)}{u v:Tr h}(k:Kids (X++(p1,u)::(p2,v)::g))(f:xi (zM (X++(p1,u)::(p2,v)::g))):
 (u.join v).Good/\(u.join v).First p1/\xi (u.join v).ents/\(∀e∈(u.join v).ents,¬e.pl.lt p1=true)/\(∀b∈g,∀e∈(u.join v).ents,e.pl.lt b.1=true):=by
 obtain⟨x,s,w,p,n,i,r⟩:=k.mid;have k2:Kids ((X++[(p1,u)])++(p2,v)::g):=by rw [an];exact k
 obtain⟨z,A,o,y,l,j,t⟩:=k2.mid;have q:=k.good (p1,u) (by simp);have m:=k.good (p2,v) (by simp);have c:∀e∈u.ents,e.pl.lt p2=true:=λe a=>o e (by rw [zC];exact af _ (by rw [zp];exact ac _ a));refine⟨QF q.1 m.1 l c,Kr n,?_,λe a=>?_,λb d e a=>?_⟩
 .rw [vE];rw [zC,zp,zp,<-an u.ents] at f;exact(ep.1 (ep.1 f).2.1).1
 .rw [vE] at a;refine p e ?_;rw [zp,zp,<-an];exact ac _ a
 .rw [vE] at a;rcases aj.1 a with a|a;.exact i b (al _ d) e (af _ a)
  .exact j b d e (af _ a)
theorem QG{b':Nat}{A B X d Y':List (Pl×Tr h)}{tc tc' u u':Tr h}(e:A++(q,tc')::B=X++(p1,u)::d)(c:Tr.First (h:=h+1) (b,A++(q,tc)::B) p):Tr.First (h:=h+1) (b',X++(p1,u')::Y') p:=by
 have a:Tr.First (h:=h+1) (b,A++(q,tc')::B) p:=j7 c;rw [e] at a;exact j7 a
structure Uu {h:Nat} (A B:List (Pl×Tr h)) (q:Pl) (tc':Tr h) (X Y:List (Pl×Tr h)) (p1 p2:Pl) (u v:Tr h):Prop where
 eq:A++(q,tc')::B=X++(p1,u)::(p2,v)::Y
 at_:max A.length 1=X.length+1
 out:∀c,c∈X\/c∈Y->c∈A\/c∈B
 two:((p1,u)∈A/\(p2,v)=(q,tc'))\/((p2,v)∈B/\(p1,u)=(q,tc'))
theorem Bq(A B:List (Pl×Tr h))(q:Pl)(tc':Tr h)(d:2<=(A++(q,tc')::B).length):∃X e p1 p2 u v,Uu A B q tc' X e p1 p2 u v:=by
 rcases List.eq_nil_or_concat A with rfl|⟨X,⟨p1,u⟩,rfl⟩
 .cases B with
  |nil=>simp at d
  |cons b B=>exact⟨[],B,q,b.1,tc',b.2,rfl,by simp,λc a=>.inr (by rcases a with a|a;cases a;exact al _ a),.inr ⟨am ..,rfl⟩⟩
 .refine⟨X,B,p1,q,u,tc',by simp,by simp,λc a=>a.imp (λh=>by simp [h]) id,.inl ⟨by simp,rfl⟩⟩
theorem Dm{A B X m:List (Pl×Tr h)}{tc tc' u v:Tr h}(g:Tr.Good (h:=h+1) (b,A++(q,tc)::B))(s:(A++(q,tc)::B).length<=6)(x:xi (zM (A++(q,tc)::B)))(D:A≠[]->¬p.lt q=true)(E:∀b∈B,p.lt b.1=true)(k:Zu tc p tc')
 (P:Uu A B q tc' X m p1 p2 u v) (C:(u.items++v.items).length<=6):Zu (h:=h+1) (b,A++(q,tc)::B) p (b,X++(p1,u.join v)::m):=by
 obtain⟨l,i⟩:=uY g.kids D E k;have f:xi (zM (A++(q,tc')::B)):=by rw [i];exact x.del
 have d:=g.full;simp only at d;have e:(A++(q,tc)::B).length=(X++(p1,u)::(p2,v)::m).length:=by rw [<-P.eq];simp
 have n:=λp o=>QG (b':=b) (u':=u.join v) (Y':=m) (p:=p) (b:=b) (tc:=tc) P.eq o;rw [P.eq] at l i f;obtain⟨t,F,G,y,r⟩:=l.pair f
 have w:3<=(u.items++v.items).length:=by
  rw [ah];rcases P.two with⟨j,_⟩|⟨j,_⟩;.have:=d _ (ac _ j);simp only at this;omega
  .have:=d (p2,v) (by simp [j]);simp only at this;omega
 have z:=l.less.swap t (by rw [jB];exact C) F y r;refine⟨rfl,z.node (λc a=>?_) g.1,?_,?_,?_,n⟩
 .rcases aj.1 a with a|a
  .rcases P.out c (.inl a) with a|a;.exact d c (ac _ a)
   .exact d c (by simp [a])
  .rcases aq.1 a with rfl|a
   .show 3<=(u.join v).items.length;rw [jB];exact w
   .rcases P.out c (.inr a) with a|a;.exact d c (ac _ a)
    .exact d c (by simp [a])
 .rw [zA,zA,e];simp;omega
 .rw [zA];simp at e s ⊢;omega
 .show zM (X++(p1,u.join v)::m)=ye p (zM (A++(q,tc)::B));rw [<-i,zC,zp,zC,zp,zp,vE,an]
theorem Dn{A B X x:List (Pl×Tr h)}{tc tc' u v:Tr h}(g:Tr.Good (h:=h+1) (b,A++(q,tc)::B))(V:(A++(q,tc)::B).length<=6)(W:xi (zM (A++(q,tc)::B)))(R:A≠[]->¬p.lt q=true)(ab:∀b∈B,p.lt b.1=true)(k:Zu tc p tc')
 (P:Uu A B q tc' X x p1 p2 u v) (Z:6<(u.items++v.items).length) (K:En) (m:Nat) (aa:m=(u.items++v.items).length/2):Zu (h:=h+1) (b,A++(q,tc)::B) p (b,X++(p1,(u.join v).cutL m)::(((u.items++v.items).getD m K).pl,(u.join v).cutR m v.blk)::x):=by
 obtain⟨i,o⟩:=uY g.kids R ab k;have n:xi (zM (A++(q,tc')::B)):=by rw [o];exact W.del
 have d:=g.full;simp only at d;have j:(A++(q,tc)::B).length=(X++(p1,u)::(p2,v)::x).length:=by rw [<-P.eq];simp
 rw [<-jB] at aa Z ⊢;have H:=λp U=>QG (b':=b) (u':=(u.join v).cutL m) (Y':=(((u.join v).items.getD m K).pl,(u.join v).cutR m v.blk)::x) (p:=p) (b:=b) (tc:=tc) P.eq U;rw [P.eq] at i o n;obtain⟨w,ae,N,z,s⟩:=i.pair n;have ad:=(i.good (p1,u) (by simp)).2.1;have y:=i.good (p2,v) (by simp);have ag:(u.join v).items.length<=12:=by rw [jB,ah];simp only at ad y;omega
 obtain⟨D,E⟩:=Dj m v.blk y.1.blk w;obtain⟨S,L,t,I⟩:=Dl (m:=m) (b:=v.blk) K w N (by omega);obtain⟨Y,M⟩:=QE m v.blk (u.join v);have l:=Di m v.blk (u.join v);have ai:((u.join v).cutL m).items.length=m:=by rw [Y,ay];omega
 have ak:((u.join v).cutR m v.blk).items.length=(u.join v).items.length-m:=by rw [M,aU]
 obtain⟨Q,G⟩:=D.some_ent (by omega);obtain⟨T,F⟩:=E.some_ent (by omega);have C:∀e∈((u.join v).cutL m).ents,e∈(u.join v).ents:=λe f=>by rw [<-l];exact ac _ f
 have J:∀e∈((u.join v).cutR m v.blk).ents,e∈(u.join v).ents:=λe f=>by rw [<-l];exact af _ f
 have O:=i.less.parted D E (by omega) (by omega) L (Us (by omega) ae) S (Pl.lt_of_not (z Q (C Q G)) (t Q G)) t I (λe f=>z e (C e f)) (λb r e f=>s b r e (J e f)) (λb r=>Pl.lt_of_not (I T F) (s b r T (J T F)));refine⟨rfl,O.node (λc a=>?_) g.1,?_,?_,?_,H⟩
 .rcases aj.1 a with a|a
  .rcases P.out c (.inl a) with a|a;.exact d c (ac _ a)
   .exact d c (by simp [a])
  .rcases aq.1 a with rfl|a;.show 3<=((u.join v).cutL m).items.length;omega
   .rcases aq.1 a with rfl|a;.show 3<=((u.join v).cutR m v.blk).items.length;omega
    .rcases P.out c (.inr a) with a|a;.exact d c (ac _ a)
     .exact d c (by simp [a])
 .rw [zA,zA,j];simp
 .rw [zA];simp at j V ⊢;omega
 .show zM (X++(p1,(u.join v).cutL m)::(((u.join v).items.getD m K).pl,(u.join v).cutR m v.blk)::x)=ye p (zM (A++(q,tc)::B));rw [<-o,zC,zp,zp,zC,zp,zp,<-an (Tr.ents _),l,vE,an]
end prog
namespace prog
open Go.RowKit disk ref
variable {D:Dk}{C:Ck}{m:List UInt8}
theorem QH(C:Ck)(D:Dk)(i:Int):C.look D i=match C.ws.find? (λp=>decide ((p.1:Int)=i)) with
 |some p=>p.2
 |none=>D.look i:=by
 cases h:yy C.ws i with
 |none=>
  rw [vt h];unfold yy at h;rw [iE] at h;rw [lG.2 (λg f=>by rw [h g f];simp)]
 |some k=>
  obtain⟨a,d,l⟩:=jo (D:=D) h;unfold yy at h;rw [ic] at h;obtain⟨_,e,c⟩:=h;have:C.ws.find? (λp=>decide ((p.1:Int)=i))=some C.ws[k]:=List.find?_eq_some_iff_getElem.2 ⟨e,k,a,rfl,λj b=>by simpa using c j b⟩;rw [this,d]
theorem Je(C:Ck)(D:Dk)(i j:Int)(h:j≠i):Ck.look {C with ws:=dY C.ws i} D j=C.look D j:=by
 rw [QH,QH];show (match (dY C.ws i).find? _ with|some p=>p.2|none=>D.look j)=_;unfold dY;rw [List.find?_filter]
 have e:(λa:Nat×List Value=>decide ((!decide ((a.1:Int)=i))=true/\decide ((a.1:Int)=j)=true))=λa=>decide ((a.1:Int)=j):=by
  funext a;by_cases b:(a.1:Int)=j
  .have c:¬(a.1:Int)=i:=by omega
   simp [b,h]
  .simp [b]
 rw [e]
theorem dG(C:Ck)(D:Dk)(m:List UInt8)(i j:Nat)(a:j≠2)(b:j≠i+21):(C.free m i).look D (j:Nat)=C.look D (j:Nat):=by
 unfold Ck.free;rw [Je _ _ _ _ (by omega),qe _ _ _ _ _ (by omega)]
theorem Do(C:Ck)(D:Dk)(m:List UInt8)(i:Nat):(C.free m i).look D 2=zo (zV (vd m i)):=by
 unfold Ck.free;rw [Je _ _ _ _ (by omega)];exact qw C D 2 _
theorem dH(C:Ck)(m:List UInt8)(i:Nat):List.Sublist (C.free m i).keys (C.put 2 (zo (zV (vd m i)))).keys:=by
 unfold Ck.free Ck.keys;exact List.Sublist.map _ mE
theorem Zv(C:Ck)(m:List UInt8)(i:Nat):(C.free m i).ws.length<=C.ws.length+1:=by
 rw [<-Ck.keys_len,<-Ck.keys_len];refine aF (dH C m i).length_le ?_;rw [Ck.keys_len,Ck.keys_len];exact qH _ _ _
structure ZO (D:Dk) (C:Ck) (m:List UInt8):Prop where
 map:qP (C.look D 2) m
 full:C.full=false
 nodup:C.keys.Nodup
structure fN (D:Dk) (C C':Ck) (m m':List UInt8) (pb fb:List Nat):Prop where
 taken:∀i,zX m' i=(zX m i&&decide (i+21∉fb))
 look:∀j:Nat,j∉pb->j∉fb->j≠2->C'.look D j=C.look D j
 keys:∀k∈C'.keys,k∈C.keys\/k∈pb\/k=2
theorem fN.refl(D:Dk)(C:Ck)(m:List UInt8):fN D C C m m [] []:=⟨λi=>by simp,λ_ _ _ _=>rfl,λ_ h=>.inl h⟩
theorem fN.trans{n g:Ck}{o f:List UInt8}{p1 p2 e d:List Nat}(h:fN D C n m o p1 e)(k:fN D n g o f p2 d):fN D C g m f (p1++p2) (e++d) where
 taken:=λi=>by rw [k.taken,h.taken,Bool.and_assoc];congr 1;simp [aj,not_or]
 look:=λj c b l=>by rw [aj,not_or] at c b;rw [k.look j c.2 b.2 l,h.look j c.1 b.1 l]
 keys:=λp a=>by
  simp only [aj];rcases k.keys p a with a|a|a
  .rcases h.keys p a with a|a|a;.exact .inl a
   .exact .inr (.inl (.inl a))
   .exact .inr (.inr a)
  .exact .inr (.inl (.inr a))
  .exact .inr (.inr a)
theorem fN.put(D:Dk)(C:Ck)(m:List UInt8)(i:Nat)(b:List Value):fN D C (C.put i b) m m [i] [] where
 taken:=λi=>by simp
 look:=λj c _ _=>qe C D i b j (λe=>c (by rw [aD];omega))
 keys:=λk a=>((xO C i b k).1 a).elim .inl (λe=>.inr (.inl (by rw [e];simp)))
theorem ZO.put(h:ZO D C m){i:Nat}(a:i≠2)(b:List Value):ZO D (C.put i b) m:=
 ⟨h.map.put i b a,by rw [qV];exact h.full,xg h.nodup i b⟩
theorem fN.free(h:ZO D C m){i:Nat}(d:i<979):fN D C (C.free m i) m (vd m i) [] [i+21] where
 taken:=λj=>by rw [VP (by rw [h.map.len];omega)];congr 1;simp
 look:=λj _ a c=>dG C D m i j c (by simpa using a)
 keys:=λk b=>by
  rcases (xO C 2 _ k).1 ((dH C m i).subset b) with a|a;.exact .inl a
  .exact .inr (.inr a)
theorem ZO.free(h:ZO D C m)(i:Nat):ZO D (C.free m i) (vd m i):=
 ⟨⟨by rw [Gn];exact h.map.len,.inl (Do C D m i)⟩,by show (C.put 2 _).full=false;rw [qV];exact h.full,(dH C m i).nodup (xg h.nodup _ _)⟩
theorem fN.sub{c:Ck}{g:List UInt8}{e a fb:List Nat}(h:fN D C c m g e fb)(n:∀j∈e,j∈a\/j∈fb)(l:∀k∈c.keys,k∈e->k∈a):fN D C c m g a fb where
 taken:=h.taken
 look:=λj d f o=>h.look j (λi=>(n j i).elim d f) f o
 keys:=λk b=>(h.keys k b).imp id (λd=>d.imp (l k b) id)
end prog
namespace prog
open ref
variable {h b:Nat}{q p1 p2:Pl}{fb:List Nat}
theorem Jf{β:Type}{pg:Pg->β}{rd f:Nat->β}:∀{h:Nat} {u v:Tr h},u.LayV pg rd->v.LayV pg rd->(u.blocks++v.blocks).Nodup->f u.blk=pg (zc (zS h) (u.items++v.items))->(∀j∈u.blocks++v.blocks,j≠u.blk->j≠v.blk->f j=rd j)->(u.join v).LayV pg f
 |0,u,v,_,_,_,hb,_=>hb
 |h+1,u,v,lu,lv,hn,hb,e=>by
  have g:(u.1::zF u.2++v.1::zF v.2).Nodup:=hn;rw [aX,iW,iW] at g;obtain⟨⟨n,_⟩,⟨m,_⟩,l⟩:=g;refine⟨?_,λc d=>?_⟩;.rw [jB];exact hb
  .have k:c∈u.2++v.2:=d;rcases aj.1 k with d|d
   .refine(lu.2 c d).congr (λj i=>?_);have a:=zY d i;exact e j (ac _ (al _ a)) (λb=>n (by rw [show j=u.1 from b] at a;exact a)) (λb=>l j (al _ a) v.1 (am ..) b)
   .refine(lv.2 c d).congr (λj i=>?_);have a:=zY d i;exact e j (af _ (al _ a)) (λb=>l u.1 (am ..) j (al _ a) b.symm) (λb=>m (by rw [show j=v.1 from b] at a;exact a))
theorem Br{β:Type}{pg:Pg->β}{rd:Nat->β}(m b:Nat):∀{h:Nat} {u:Tr h},(∀(d:Nat->β),d u.blk=pg (zc (zS h) u.items)->(∀j,j≠u.blk->d j=rd j)->u.LayV pg d)->u.blk∉u.blocks.tail->rd u.blk=pg (zc (zS h) (u.items.take m))->rd b=pg (zc (zS h) (u.items.drop m))->(u.cutL m).LayV pg rd/\(u.cutR m b).LayV pg rd
 |0,u,_,_,h1,h2=>⟨h1,h2⟩
 |h+1,u,l,hn,h1,h2=>by
  have k:=l (λj=>if j=u.blk then pg (zc 4 u.items) else rd j) (by simp [zS]) (λj f=>az f)
  have g:∀c∈u.2,c.2.LayV pg rd:=λc a=>(k.2 c a).congr (λj f=>(az (λe=>hn (by
   have:j∈zF u.2:=zY a f
   rw [e] at this;exact this))).symm)
  obtain⟨i,n⟩:=QE m b u;exact⟨⟨by rw [i];exact h1,λc a=>g c (aJ a)⟩,⟨by rw [n];exact h2,λc a=>g c (eJ a)⟩⟩
theorem kU{A B:List (Pl×Tr h)}{tc tc':Tr h}(c:(tc'.blocks++fb).Perm tc.blocks):
 (Tr.blocks (h:=h+1) (b,A++(q,tc')::B)++fb).Perm (Tr.blocks (h:=h+1) (b,A++(q,tc)::B)):=by
 show (b::zF (A++(q,tc')::B)++fb).Perm (b::zF (A++(q,tc)::B));rw [l0] at c ⊢;intro a;have:=c a;simp only [qz,qM,a9,mr,ne] at this ⊢;omega
theorem bK{A B X e:List (Pl×Tr h)}{tc tc' u v:Tr h}(d:(tc'.blocks++fb).Perm tc.blocks)(P:Uu A B q tc' X e p1 p2 u v):
 (Tr.blocks (h:=h+1) (b,X++(p1,u.join v)::e)++(fb++[v.blk])).Perm (Tr.blocks (h:=h+1) (b,A++(q,tc)::B)):=by
 refine List.Perm.trans ?_ (kU d);show (b::zF (X++(p1,u.join v)::e)++(fb++[v.blk])).Perm (b::zF (A++(q,tc')::B)++fb);have c:=uq u v;rw [P.eq];rw [l0] at c ⊢;intro a;have:=c a;simp only [qz,qM,a9,mr,ne,List.count_nil] at this ⊢;omega
theorem bL{A B X f:List (Pl×Tr h)}{q':Pl}{tc tc' u v:Tr h}(m:Nat)(e:(tc'.blocks++fb).Perm tc.blocks)(P:Uu A B q tc' X f p1 p2 u v):
 (Tr.blocks (h:=h+1) (b,X++(p1,(u.join v).cutL m)::(q',(u.join v).cutR m v.blk)::f)++fb).Perm (Tr.blocks (h:=h+1) (b,A++(q,tc)::B)):=by
 refine List.Perm.trans ?_ (kU e);show (b::zF (X++(p1,(u.join v).cutL m)::(q',(u.join v).cutR m v.blk)::f)++fb).Perm (b::zF (A++(q,tc')::B)++fb);have c:=uq u v;have d:=Kq m v.blk (u.join v);rw [P.eq];rw [l0] at c d ⊢;intro a;have:=c a;have:=d a;simp only [qz,qM,a9,mr,ne,List.count_nil] at*;omega
def vh{h:Nat}(c:Pl×Tr h):En:=⟨c.1,false,0,c.2.blk⟩
theorem Ks{A B X c:List (Pl×Tr h)}{tc tc' u v:Tr h}(b:tc'.blk=tc.blk)(P:Uu A B q tc' X c p1 p2 u v):
 (A++(q,tc)::B).map vh=X.map vh++vh (p1,u)::vh (p2,v)::c.map vh:=by
 have a:(A++(q,tc)::B).map vh=(A++(q,tc')::B).map vh:=by simp [vh,b]
 rw [a,P.eq];simp
theorem Bs{X e:List En}{b f z:En}{r:Nat}(d:r=X.length+1)(a:List En)(c:a=X++b::f::e):r<a.length/\(∀(h:r-1<a.length),a[r-1]=b)/\(∀(h:r<a.length),a[r]=f)/\a.eraseIdx r=X++b::e/\a.set r z=X++b::z::e:=by
 subst d c;refine⟨by simp,λh=>by simp,λh=>?_,?_,?_⟩;.simp [ip]
 .rw [List.eraseIdx_append_of_length_le (by omega)];simp
 .rw [List.set_append_right _ _ (by omega)];simp
end prog
end Go.Proofs.YtcoengihaobddaaGreatDoor

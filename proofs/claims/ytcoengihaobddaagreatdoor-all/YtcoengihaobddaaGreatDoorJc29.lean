/- Part 29 of 36 of a proof: Rem10, Rem8, Tr6, Shr1, Tr7 -/
import Derived.Test.YtcoengihaobddaaGreatDoorJc28
set_option maxHeartbeats 8000000
set_option linter.unusedVariables false
set_option linter.unusedSimpArgs false
set_option maxRecDepth 8000
namespace Go.Proofs.YtcoengihaobddaaGreatDoor
namespace prog
open Go.ChangeShapes Go.WideShapes Go.ChangeAt Go.RowKit disk ref
open keys (zh ze zy zs)
structure jF (bc bd:Nat) (S T:Nat->Prop) (D:Dk) (C:Ck) (root:Nat) (p:Pl) (root':Nat) (v:List Value) (ok:Bool) (C':Ck):Prop where
 go:∀(w:World) (r:Int),0<=r->r<=4611686018427360000->Cw w bc bd S T {D with reads:=r} C->
  Calls Tryz.prog 79 #[.pointer (some ⟨bc,0,none⟩),.int .i64 root,.agg #[.string p.key,.int .i64 p.num]] w λx w'=>x=.returned (.tuple #[.int .i64 (root':Int),.agg v.toArray,.bool ok])/\(∃(n:Int) (T':Nat->Prop),0<=n/\n<=27/\Cw w' bc bd S T' {D with reads:=r+n} C'/\∀j,T' j->T j\/w.heap.size<=j)/\za (λj=>j=bd\/T j) w w'
theorem jg{P:Program}{fn:Func}{p u v:Tmp}{a:TypeId}(h:fn.results=#[.tmp u,.cell p a,.tmp v])(tmps:Array Value)(w:World)(g:Nat)(t:TypeId)(b:Array Value)(e:Nat×Nat)(d:TypeDesc)
 (f:tmps.getD p undef=.pointer (some ⟨g,0,none⟩)) (k:w.heap[g]? =some (.cells b t e))
 (j:P.underlying a=some d) (i:(match d with|.struct _|.array _ _=>true|_=>false)=true) (l:(P.info? a).map (·.size)=some b.size):
 (results fn tmps).run P w=.ok (.tuple #[tmps.getD u undef,.agg b,tmps.getD v undef]) w:=by
 have c:tmps[p]?.getD undef=.pointer (some ⟨g,0,none⟩):=by simpa using f
 simp [results,h,c,asAddr,run_loadVar_row w g t a b e d k j i l]
theorem Yz(w:World)(d:Nat)(p:Pl)(a:Nat)(b:a=0):Calls Tryz.prog 79 #[.pointer (some ⟨d,0,none⟩),.int .i64 (a:Int),.agg #[.string p.key,.int .i64 p.num]] w λe w'=>e=.returned (.tuple #[.int .i64 (a:Int),.agg qz.toArray,.bool false])/\za (λ_=>False) w w':=by
 have f:((a:Int)==0)=true:=by rw [b];rfl
 clear b;unfold qz;go_enter Tryz.func79,Tryz.ntmps79;go_wp2;have c:=Ul w p;exact bodyPost_ret (jg rfl _ _ _ _ _ _ _ rfl c.res Tryz.underlying109 rfl (by kernel_rfl)) rfl ⟨rfl,c.kept⟩
def GK(bc bd:Nat)(S:Nat->Prop)(D:Dk)(C1:Ck)(root:Nat)(s:Bool)(root':Nat)(C2:Ck):Prop:=
 (s=false/\root'=root/\C2=C1)\/(s=true/\∀(w0:World) (T0:Nat->Prop) (r:Int),0<=r->r<=4611686018427380000->Cw w0 bc bd S T0 {D with reads:=r} C1->Calls Tryz.prog 142 #[.pointer (some ⟨bc,0,none⟩),.int .i64 (root:Int)] w0 λx w'=>x=.returned (.int .i64 (root':Nat))/\(∃(n:Int) (T':Nat->Prop),0<=n/\n<=2/\Cw w' bc bd S T' {D with reads:=r+n} C2/\∀j,T' j->T0 j\/w0.heap.size<=j)/\za (λj=>j=bd\/T0 j) w0 w')
theorem vk(w:World)(x bd:Nat)(S T:Nat->Prop)(D:Dk)(C:Ck)(r:Int)(h:Cw w x bd S T {D with reads:=r} C)(ak:0<=r)(p:Pl)(af o:Nat)(aE:o≠0)(am:r+(4*af:Nat)<=4611686018427370000)(a7:af<=6)(v:List Value)(aO:∃(e:ByteArray) (c:Int) (d:Bool) (f g:Int),v=[.string e,.int .i64 c,.bool d,.int .i64 f,.int .i64 g])(s O:Bool)(az:Ck)(ay:gh x bd S T D C af o p v s O az)(b:Nat)(t:Ck)(q:GK x bd S D az o s b t):
 Calls Tryz.prog 79 #[.pointer (some ⟨x,0,none⟩),.int .i64 o,.agg #[.string p.key,.int .i64 p.num]] w λar w'=>ar=.returned (.tuple #[.int .i64 (b:Int),.agg v.toArray,.bool O])/\(∃(n:Int) (m:Nat->Prop),0<=n/\n<=27/\Cw w' x bd S m {D with reads:=r+n} t/\∀j,m j->T j\/w.heap.size<=j)/\za (λj=>j=bd\/T j) w w':=by
 have M:Hid _:=h;obtain⟨e,c,d,f,g,rfl⟩:=aO;change Hid _ at ay q;clear h;have a5:=M.disk.lt bd M.disk.bdS;have I:Hid _:=M.chg.lt;have aq:Hid _:=M.disk.lt;have bc:=beq_false_of_ne (by omega);have P:Hid _:=Ul w p;go_enter Tryz.func79,Tryz.ntmps79;go_wp2_with fail;generalize ((w.alloc (.cells #[.string p.key,.int .i64 p.num] 107)).alloc (.cells #[.string ⟨#[]⟩,.int .i64 0,.bool false,.int .i64 0,.int .i64 0] 109))=aD at*;have a6:=P.size;refine(ay.go aD r ak am (M.kept0 P.kept)).mono ?_;rintro ar a ⟨rfl,⟨ah,ae,aA,a4,N,u⟩,E⟩;have a8:=E.size;have al:Hid (∀j,w.heap.size<=j->¬(j=bd\/T j)):=λj l ad=>ad.elim (λh=>by omega) (λh=>by have:=I.out j h;omega);have ab:Hid (a.heap[w.heap.size+1]? =_):=(E.block _ (by omega) (al _ (by omega))).trans P.res;change Hid _ at N u E;rcases q.out with⟨rfl,V,Y⟩|⟨rfl,F⟩
 case' inr=>
  change Hid _ at F
 case' inl=>
  change Hid _ at V Y
 all_goals
  clear q;go_wp2_with fail;have H:Hid (za (λ_=>False) a (a.alloc (.cells #[.string e,.int .i64 c,.bool d,.int .i64 f,.int .i64 g] 109))):=za.alloc _ _ _;have R:Hid ((a.alloc (.cells #[.string e,.int .i64 c,.bool d,.int .i64 f,.int .i64 g] 109)).heap[a.heap.size]? =some (.cells #[.string e,.int .i64 c,.bool d,.int .i64 f,.int .i64 g] 109 (0,0))):=ac a _;have ba:(a.alloc (.cells #[.string e,.int .i64 c,.bool d,.int .i64 f,.int .i64 g] 109)).heap.size=a.heap.size+1:=by simp
  generalize (a.alloc (.cells #[.string e,.int .i64 c,.bool d,.int .i64 f,.int .i64 g] 109))=A at*;have y:Hid (A.heap[w.heap.size+1]? =_):=(H.block _ (by omega) id).trans ab.out;have W:Hid _:=N.kept0 H.out;have K:Hid _:=((P.kept.mono fE).trans E iL).trans H fE;have a1:¬w.heap.size+1=a.heap.size:=by omega
  have G:Hid (∀(B:World) (n:Int) (m:Nat->Prop) (b:Nat) (t:Ck) (tmps:Array Value),0<=n->n<=27->Cw B x bd S m {D with reads:=r+n} t->(∀j,m j->T j\/aD.heap.size<=j)->za (λj=>j=bd\/T j) w B->B.heap[w.heap.size+1]? =some (.cells #[.string ⟨#[]⟩,.int .i64 0,.bool false,.int .i64 0,.int .i64 0] 109 (0,0))->tmps.getD 6 undef=.int .i64 (b:Int)->tmps.getD 7 undef=.pointer (some ⟨w.heap.size+1,0,none⟩)->tmps.getD 8 undef=.bool O->
   bodyPost Tryz.prog Tryz.f79 (λar w'=>ar=.returned (.tuple #[.int .i64 (b:Int),.agg #[.string e,.int .i64 c,.bool d,.int .i64 f,.int .i64 g],.bool O])/\(∃(n:Int) (m:Nat->Prop),0<=n/\n<=27/\Cw w' x bd S m {D with reads:=r+n} t/\∀j,m j->T j\/w.heap.size<=j)/\za (λj=>j=bd\/T j) w w') .ret {tmps:=tmps,defers:=[]} (((((B.setCell ⟨w.heap.size+1,0,none⟩ (.string e)).setCell ⟨w.heap.size+1,1,none⟩ (.int .i64 c)).setCell ⟨w.heap.size+1,2,none⟩ (.bool d)).setCell ⟨w.heap.size+1,3,none⟩ (.int .i64 f)).setCell ⟨w.heap.size+1,4,none⟩ (.int .i64 g)).drew):=by
   intro B n m b t tmps aX ax aC U aj i aY aV aK;obtain⟨av,au⟩:=kJ B (w.heap.size+1) 109 _ _ _ _ _ (.string e) (.int .i64 c) (.bool d) (.int .i64 f) (.int .i64 g) i;generalize (((((B.setCell ⟨w.heap.size+1,0,none⟩ (.string e)).setCell ⟨w.heap.size+1,1,none⟩ (.int .i64 c)).setCell ⟨w.heap.size+1,2,none⟩ (.bool d)).setCell ⟨w.heap.size+1,3,none⟩ (.int .i64 f)).setCell ⟨w.heap.size+1,4,none⟩ (.int .i64 g))=a3 at*;have ao:=au.trans (za.drew (λ_=>False) a3) fE;refine bodyPost_ret (jg rfl _ _ _ _ _ _ _ aV (show a3.drew.heap[w.heap.size+1]? =_ from av) Tryz.underlying109 rfl (by kernel_rfl)) rfl ⟨by rw [aY,aK],⟨n,m,aX,ax,aC.kept ao (λj l Z=>by have:=aq.out j l;omega) (λj l Z=>?_),λj l=>(U j l).imp id (λh=>by omega)⟩,aj.trans ao (λj l=>.inr (by omega))⟩;rcases U j l with h|h;.have:=I.out j h;omega
   .omega
  have ai:Hid (∀B:World,B.heap[w.heap.size+1]? =some (.cells #[.string ⟨#[]⟩,.int .i64 0,.bool false,.int .i64 0,.int .i64 0] 109 (0,0))->B.cell? ⟨w.heap.size+1,0,none⟩=some (.string ⟨#[]⟩)/\B.cell? ⟨w.heap.size+1,1,none⟩=some (.int .i64 0)/\B.cell? ⟨w.heap.size+1,2,none⟩=some (.bool false)/\B.cell? ⟨w.heap.size+1,3,none⟩=some (.int .i64 0)/\B.cell? ⟨w.heap.size+1,4,none⟩=some (.int .i64 0)/\∀aF,B.frozen? ⟨w.heap.size+1,aF,none⟩=false):=λB i=>⟨cR i rfl,cR i rfl,cR i rfl,cR i rfl,cR i rfl,λaF=>aa B _ aF _ _ i⟩;have aB:Hid (∀B:World,B.heap[a.heap.size]? =some (.cells #[.string e,.int .i64 c,.bool d,.int .i64 f,.int .i64 g] 109 (0,0))->B.cell? ⟨a.heap.size,0,none⟩=some (.string e)/\B.cell? ⟨a.heap.size,1,none⟩=some (.int .i64 c)/\B.cell? ⟨a.heap.size,2,none⟩=some (.bool d)/\B.cell? ⟨a.heap.size,3,none⟩=some (.int .i64 f)/\B.cell? ⟨a.heap.size,4,none⟩=some (.int .i64 g)):=λB i=>⟨cR i rfl,cR i rfl,cR i rfl,cR i rfl,cR i rfl⟩
 .obtain⟨Z,aN,aI,aZ,aP⟩:=aB.out A R.out;obtain⟨aS,aU,aR,aH,aW,k⟩:=ai.out A y.out;have aT:=k 0;have aG:=k 1;have aL:=k 2;have a0:=k 3;have aM:=k 4;clear k;try go_wp2_with fail
  go_region_held3 (λw'=>w'.cell? ⟨a.heap.size,0,none⟩=some (.string e)/\w'.cell? ⟨a.heap.size,1,none⟩=some (.int .i64 c)/\w'.cell? ⟨a.heap.size,2,none⟩=some (.bool d)/\w'.cell? ⟨a.heap.size,3,none⟩=some (.int .i64 f)/\w'.cell? ⟨a.heap.size,4,none⟩=some (.int .i64 g)) (go_keep) (fail);go_wp2;exact G A ah ae b t _ aA (by omega) (by rw [Y.out];exact W) u K y (by rw [V.out];rfl) rfl rfl
 .refine(F A ae (r+ah) (by omega) (by omega) W).mono ?_;rintro ar B ⟨rfl,⟨a2,ap,aQ,aJ,X,Q⟩,z⟩;have an:Hid (∀j,ap j->T j\/aD.heap.size<=j):=λj l=>(Q j l).elim (u j) (λh=>.inr (by omega))
  have J:Hid (∀j,w.heap.size<=j->j<aD.heap.size\/j=a.heap.size->¬(j=bd\/ae j)):=λj l bb ad=>by
   rcases ad with h|h;.omega
   .have be:=N.chg.lt j h;rcases u j h with h|h;.have:=I.out j h;omega
    .omega
  have aw:Hid (B.heap[a.heap.size]? =_):=(z.block _ (by omega) (J _ (by omega) (.inr rfl))).trans R.out;have L:Hid (B.heap[w.heap.size+1]? =_):=(z.block _ (by omega) (J _ (by omega) (.inl (by omega)))).trans y.out
  have ag:Hid _:=K.trans z (λj l=>by
   rcases l with h|h;.exact .inl (.inl h)
   .exact(u j h).imp .inr (λh=>by omega))
  change Hid _ at X;clear Q z;obtain⟨Z,aN,aI,aZ,aP⟩:=aB.out B aw.out;obtain⟨aS,aU,aR,aH,aW,k⟩:=ai.out B L.out;have aT:=k 0;have aG:=k 1;have aL:=k 2;have a0:=k 3;have aM:=k 4;clear k;go_wp2_with fail;go_region_held3 (λw'=>w'.cell? ⟨a.heap.size,0,none⟩=some (.string e)/\w'.cell? ⟨a.heap.size,1,none⟩=some (.int .i64 c)/\w'.cell? ⟨a.heap.size,2,none⟩=some (.bool d)/\w'.cell? ⟨a.heap.size,3,none⟩=some (.int .i64 f)/\w'.cell? ⟨a.heap.size,4,none⟩=some (.int .i64 g)) (go_keep) (fail);go_wp2;exact G B (ah+a2) ap b t _ (by omega) (by omega) (by rw [<-a9];exact X) an ag L rfl rfl rfl
def Un(bc bd:Nat)(S:Nat->Prop)(D:Dk)(C1:Ck)(es:List En)(c at_:Nat)(s ok s2 ok2:Bool)(C3:Ck):Prop:=
 (s=false/\s2=false/\ok2=ok/\C3=C1)\/
  (s=true/\ok2=true/\∃es2 C2,Zl bc bd S D C1 es c es2 C2/\(∀x∈es2,x.Ok)/\es2.length<=6/\C2.ws.length<1000/\decide ((es2.length:Int)<3)=s2/\C3=C2.put at_ (zm (zc 4 es2)))
theorem vM(w:World)(z bd:Nat)(S T:Nat->Prop)(D:Dk)(C:Ck)(h:Cw w z bd S T D C)(bY:0<=D.reads)(cN:D.reads<=4611686018427370000)(L:Nat)(b3:L<65536)(l:List En)(a2:∀e∈l,e.Ok)(bV:∀e∈l,e.mark=false/\e.size=0)(bb:l.length<=6)(bL:yO l)(bZ:C.look D L=zm (zc 4 l))(p:Pl)(cd:Nat)(c6:cd<=1000)(v:List Value)(aL:∃(O:ByteArray) (N:Int) (U:Bool) (P Q:Int),v=[.string O,.int .i64 N,.bool U,.int .i64 P,.int .i64 Q])(s aJ:Bool)(au:Ck)(c:Nat)(B:zI l p=c)(cb:c<l.length)(ax:Uk z bd S T D C l[c].at_ p cd v s aJ au)(aM aI:Bool)(aK:Ck)(aq:Un z bd S D au l c L s aJ aM aI aK):
 Calls Tryz.prog 141 #[.pointer (some ⟨z,0,none⟩),.int .i64 L,.agg #[.string p.key,.int .i64 p.num]] w λcF w'=>cF=.returned (.tuple #[.agg v.toArray,.bool aM,.bool aI])/\(∃(n:Int) (aG:Nat->Prop),0<=n/\n<=cd+4/\Cw w' z bd S aG {D with reads:=D.reads+n} aK/\∀j,aG j->T j\/w.heap.size<=j)/\za (λj=>j=bd\/T j) w w':=by
 have cI:Hid _:=h;have bF:Hid _:=B;have aF:Hid (Uk z bd S T D C l[c].at_ p cd v s aJ au):=ax;have an:Hid (Un z bd S D au l c L s aJ aM aI aK):=aq;have cO:bd<w.heap.size:=h.disk.lt bd h.disk.bdS;have Y:Hid (∀j,T j->j<w.heap.size):=h.chg.lt;have ar:Hid (∀j,S j->j<w.heap.size):=h.disk.lt;obtain⟨O,N,U,P,Q,rfl⟩:=aL;change Hid _ at a2 bV bL bZ;clear h B ax aq;have aB:Hid _:=Ul w p;go_enter Tryz.func141,Tryz.ntmps141;go_wp2_with fail;generalize ((w.alloc (.cells #[.string p.key,.int .i64 p.num] 107)).alloc (.cells #[.string ⟨#[]⟩,.int .i64 0,.bool false,.int .i64 0,.int .i64 0] 109))=ce at*;refine(yB ce z bd S T D C (cI.kept0 aB.kept) bY (by omega) L b3 4 l (.inl rfl) a2 (λ_=>bV) bb bZ).mono ?_;rintro r d ⟨a,i,rfl,⟨R,bN,bt,a8⟩,af,K,J,aD⟩;have bH:Hid (Cw d z bd S T {D with reads:=D.reads+R} C):=a8;have bv:Hid (za (λj=>j=bd) ce d):=af;have bw:Hid (d.ownsRow 0 109 5 (.slice a l.length i) l.length (zj l)):=J;have cP:=aB.size;have cp:=af.size;have al:Hid (d.heap[w.heap.size]? =_):=(af.block _ (by omega) (by omega)).trans aB.pl;have bl:Hid (d.heap[w.heap.size+1]? =_):=(af.block _ (by omega) (by omega)).trans aB.res;obtain⟨g,c0,rfl⟩:=K.base (by omega)
 obtain rfl:c0=0:=by
  rcases J.2 with⟨cE,_⟩|⟨c4,cm,cM,aL,_⟩;.cases cE
  .simp only [Value.slice.injEq,ij,Addr.mk.injEq] at aL;exact aL.1.2.1
 have cZ:ce.heap.size<=g:=aD g rfl;have cS:g<d.heap.size:=(J.lt g rfl).2;change Hid _ at K;clear a8 af J aD;have cj:d.cell? ⟨w.heap.size,0,none⟩=some (.string p.key):=cR al.out rfl;have cy:d.cell? ⟨w.heap.size,1,none⟩=some (.int .i64 p.num):=cR al.out rfl;have cA:w.heap.size<d.heap.size:=by omega
 go_wp2_with fail;have aY:Hid (za (λ_=>False) d (d.alloc (.cells #[.int .u8 4,.slice (some ⟨g,0,none⟩) l.length i] 209))):=za.alloc _ _ _;have bW:Hid ((d.alloc (.cells #[.int .u8 4,.slice (some ⟨g,0,none⟩) l.length i] 209)).heap[d.heap.size]? =some (.cells #[.int .u8 4,.slice (some ⟨g,0,none⟩) l.length i] 209 (0,0))):=ac d _;have cY:(d.alloc (.cells #[.int .u8 4,.slice (some ⟨g,0,none⟩) l.length i] 209)).heap.size=d.heap.size+1:=by simp
 generalize (d.alloc (.cells #[.int .u8 4,.slice (some ⟨g,0,none⟩) l.length i] 209))=ck at*;refine(vB ck _ _ i l (K.kept aY nF) bL 4 p).mono ?_;rintro r m ⟨rfl,ap⟩;rw [bF.out];have W:Hid (za (λ_=>False) d m):=aY.trans ap iL;have ct:=ap.size;have aw:Hid (m.heap[d.heap.size]? =_):=(ap.block _ (by omega) id).trans bW.out;have am:Hid (m.heap[w.heap.size]? =_):=(W.block _ (by omega) id).trans al.out;have bm:Hid (m.heap[w.heap.size+1]? =_):=(W.block _ (by omega) id).trans bl.out;have bT:Hid (qg m (λb=>ce.heap.size<=b) (some ⟨g,0,none⟩) l):=K.kept W nF;clear ap cj cy;obtain⟨-, -, -, -, bc, -, -⟩:=bT.cells c cb;simp only [eT] at bc;have aU:Hid (∀br:World,Cw br z bd S T {D with reads:=D.reads+R} C->_):=λbr b2=>aF.go br R bN bt b2;generalize l[c].at_=bf at*;have cx:m.cell? ⟨w.heap.size,0,none⟩=some (.string p.key):=cR am.out rfl;have cn:m.cell? ⟨w.heap.size,1,none⟩=some (.int .i64 p.num):=cR am.out rfl;have cv:m.cell? ⟨d.heap.size,1,none⟩=some (.slice (some ⟨g,0,none⟩) l.length i):=cR aw.out rfl;have b1:Hid (m.cell? ⟨g,c*5+4,none⟩=some (.int .i64 (bf:Int))):=bc;have cK:(c:Int)<(l.length:Int):=by omega
 have ad:Hid (∀j,w.heap.size<=j->¬(j=bd\/T j)):=λj f B=>B.elim (λh=>by omega) (λh=>by have:=Y.out j h;omega);have bi:Hid (Cw m.drew z bd S T {D with reads:=D.reads+R} C):=(bH.kept0 W).kept0 (za.drew _ m);have bk:Hid (za (λj=>j=bd\/T j) w m):=((aB.kept.mono fE).trans bv (λ_ h=>.inl (.inl h))).trans W fE;have b7:Hid (m.ownsRow 0 109 5 (.slice (some ⟨g,0,none⟩) l.length i) l.length (zj l)):=W.owns bw nF;have cX:¬w.heap.size+1=d.heap.size:=by omega
 have cV:¬w.heap.size+1=g:=by omega
 have cr:¬d.heap.size=w.heap.size+1:=by omega
 go_wp2_with fail;go_region_held3 (λw'=>w'.cell? ⟨d.heap.size,1,none⟩=some (.slice (some ⟨g,0,none⟩) l.length i)/\w'.cell? ⟨g,c*5+4,none⟩=some (.int .i64 (bf:Int))/\w'.cell? ⟨w.heap.size,0,none⟩=some (.string p.key)/\w'.cell? ⟨w.heap.size,1,none⟩=some (.int .i64 p.num)) (go_keep) ((go_at_call 141;refine(aU _ (by exact bi)).mono ?_;rintro r q ⟨rfl,⟨ak,ab,cu,cf,aV,a7⟩,a5⟩;have bC:Hid (Cw q z bd S ab {D with reads:=D.reads+R+ak} au):=aV;have Z:Hid (∀j,ab j->T j\/m.heap.size<=j):=a7;have A:Hid (za (λj=>j=bd\/T j) m q):=((za.drew (λ_=>False) m).mono fE).trans a5 iL;have aC:Hid (q.heap[d.heap.size]? =some (.cells #[.int .u8 4,.slice (some ⟨g,0,none⟩) l.length i] 209 (0,0))):=(A.block _ (show d.heap.size<m.heap.size by omega) (ad _ (by omega))).trans aw.out;have av:Hid (q.heap[w.heap.size]? =some (.cells #[.string p.key,.int .i64 p.num] 107 (0,0))):=(A.block _ (show w.heap.size<m.heap.size by omega) (ad _ (by omega))).trans am.out;have o:Hid (q.heap[w.heap.size+1]? =some (.cells #[.string ⟨#[]⟩,.int .i64 0,.bool false,.int .i64 0,.int .i64 0] 109 (0,0))):=(A.block _ (show w.heap.size+1<m.heap.size by omega) (ad _ (by omega))).trans bm.out;have bO:q.cell? ⟨d.heap.size,1,none⟩=some (.slice (some ⟨g,0,none⟩) l.length i):=(cR aC.out rfl);have bB:q.cell? ⟨g,c*5+4,none⟩=some (.int .i64 (bf:Int)):=(A.cell (a:=⟨g,c*5+4,none⟩) (show g<m.heap.size by omega) (ad g (by omega))).trans b1.out;have bM:q.cell? ⟨w.heap.size,0,none⟩=some (.string p.key):=(cR av.out rfl);have bA:q.cell? ⟨w.heap.size,1,none⟩=some (.int .i64 p.num):=(cR av.out rfl);have ci:m.heap.size<=q.heap.size:=A.size;have cD:q.cell? ⟨w.heap.size+1,0,none⟩=some (.string ⟨#[]⟩):=(cR o.out rfl);have cG:q.cell? ⟨w.heap.size+1,1,none⟩=some (.int .i64 0):=(cR o.out rfl);have cz:q.cell? ⟨w.heap.size+1,2,none⟩=some (.bool false):=(cR o.out rfl);have cg:q.cell? ⟨w.heap.size+1,3,none⟩=some (.int .i64 0):=(cR o.out rfl);have cH:q.cell? ⟨w.heap.size+1,4,none⟩=some (.int .i64 0):=(cR o.out rfl);have b5:=aa q (w.heap.size+1) 0 _ _ o.out;have bU:=aa q (w.heap.size+1) 1 _ _ o.out;have bx:=aa q (w.heap.size+1) 2 _ _ o.out;have ca:=aa q (w.heap.size+1) 3 _ _ o.out;have bz:=aa q (w.heap.size+1) 4 _ _ o.out;clear aV a7 a5;dsimp only));obtain⟨t,V⟩:=kJ q (w.heap.size+1) 109 _ _ _ _ _ (.string O) (.int .i64 N) (.bool U) (.int .i64 P) (.int .i64 Q) o.out;change Hid _ at t V;clear cD cG cz cg cH b5 bU bx ca bz cx cn cv bO bc bB bM bA aU aF;generalize (((((q.setCell ⟨w.heap.size+1,0,none⟩ (.string O)).setCell ⟨w.heap.size+1,1,none⟩ (.int .i64 N)).setCell ⟨w.heap.size+1,2,none⟩ (.bool U)).setCell ⟨w.heap.size+1,3,none⟩ (.int .i64 P)).setCell ⟨w.heap.size+1,4,none⟩ (.int .i64 Q))=X at*;have cU:=V.size
 have ao:Hid (∀j,S j\/ab j->j≠w.heap.size+1):=λj f ah=>by
  rcases f with h|h;.have:=ar.out j h;omega
  .rcases Z j h with h|h;.have:=Y.out j h;omega
   .omega
 have aP:Hid (Cw X z bd S ab {D with reads:=D.reads+R+ak} au):=bC.kept V (λj f=>ao j (.inl f)) (λj f=>ao j (.inr f));have aE:Hid (za (λj=>j=bd\/T j) w X):=(bk.trans A iL).trans V (λj f=>.inr (by omega));have ai:Hid (X.heap[d.heap.size]? =_):=(V.block _ (by omega) (by omega)).trans aC.out;rcases an.out with⟨rfl,rfl,rfl,rfl⟩|⟨rfl,rfl,y,bI,aS,ay,bS,bg,aT,a4⟩
 .have ch:X.cell? ⟨w.heap.size+1,0,none⟩=some (.string O):=cR t.out rfl;have cw:X.cell? ⟨w.heap.size+1,1,none⟩=some (.int .i64 N):=cR t.out rfl;have cB:X.cell? ⟨w.heap.size+1,2,none⟩=some (.bool U):=cR t.out rfl;have cC:X.cell? ⟨w.heap.size+1,3,none⟩=some (.int .i64 P):=cR t.out rfl;have cs:X.cell? ⟨w.heap.size+1,4,none⟩=some (.int .i64 Q):=cR t.out rfl;have b5:=aa X (w.heap.size+1) 0 _ _ t.out;have bU:=aa X (w.heap.size+1) 1 _ _ t.out;have bx:=aa X (w.heap.size+1) 2 _ _ t.out;have ca:=aa X (w.heap.size+1) 3 _ _ t.out;have bz:=aa X (w.heap.size+1) 4 _ _ t.out;go_wp2;obtain⟨b9,G⟩:=kJ X (w.heap.size+1) 109 _ _ _ _ _ (.string O) (.int .i64 N) (.bool U) (.int .i64 P) (.int .i64 Q) t.out;refine bodyPost_ret (y5 rfl _ _ _ _ _ _ _ rfl b9 Tryz.underlying109 rfl (by kernel_rfl)) rfl ⟨rfl,⟨R+ak,ab,by omega,by omega,?_,λj f=>(Z j f).imp id (λh=>by omega)⟩,aE.trans G (λj f=>.inr (by omega))⟩;have:=aP.kept G (λj f=>ao j (.inl f)) (λj f=>ao j (.inr f));rw [a9] at this;exact this
 .have bp:Hid _:=ay;have b0:Hid _:=ad.out g (by omega);have bP:Hid _:=V.owns (A.owns b7 (λj f B=>by simp [Value.ownBlock] at f;subst f;exact b0 B)) (λj f ah=>by simp [Value.ownBlock] at f;omega)
  have b8:Hid (Calls Tryz.prog 180 #[.agg #[.int .u8 4,.slice (some ⟨g,0,none⟩) l.length i],.pointer (some ⟨z,0,none⟩),.int .i64 c] X λcF w'=>cF=.returned (.agg #[.int .u8 4,.slice (some ⟨g,0,none⟩) y.length i])/\w'.ownsRow 0 109 5 (.slice (some ⟨g,0,none⟩) y.length i) y.length (zj y)/\(∃(n:Int) (aG:Nat->Prop),0<=n/\n<=3/\Cw w' z bd S aG {D with reads:=D.reads+R+ak+n} bI/\∀j,aG j->ab j\/X.heap.size<=j)/\za (λj=>j=bd\/ab j\/j=g) X w'):=
   aS.go X ab (D.reads+R+ak) g i (by omega) (by omega) aP bP (λcJ=>by have:=ar.out g cJ;omega) (λco=>by
    rcases Z g co with h|h;.have:=Y.out g h;omega
    .omega)
  change Hid _ at aT a4;clear ay aS an;have bs:X.cell? ⟨d.heap.size,0,none⟩=some (.int .u8 4):=cR ai.out rfl;have p1:X.cell? ⟨d.heap.size,1,none⟩=some (.slice (some ⟨g,0,none⟩) l.length i):=cR ai.out rfl;go_wp2_with fail;refine b8.mono ?_;rintro r I ⟨rfl,aQ,⟨bE,be,cq,cl,a3,a0⟩,ae⟩;have aA:Hid (∀j,be j->T j\/m.heap.size<=j):=λj f=>(a0 j f).elim (Z j) (λh=>.inr (by omega))
  have az:Hid (∀j,w.heap.size<=j->j<m.heap.size->¬ab j):=λj aN h2 B=>by
   rcases Z j B with h|h;.have:=Y.out j h;omega
   .omega
  have aj:Hid (∀j,w.heap.size<=j->j<m.heap.size->¬be j):=λj aN h2 B=>by
   rcases aA j B with h|h;.have:=Y.out j h;omega
   .omega
  have M:Hid (I.heap[d.heap.size]? =_):=(ae.block _ (by omega) (λB=>by
   rcases B with h|h|h;.omega
   .exact az _ (by omega) (by omega) h
   .omega)).trans ai.out
  have bj:Hid (I.heap[w.heap.size+1]? =_):=(ae.block _ (by omega) (λB=>by
   rcases B with h|h|h;.omega
   .exact az _ (by omega) (by omega) h
   .omega)).trans t.out
  have bn:Hid _:=aE.trans ae (λj f=>by
   rcases f with h|h|h;.exact .inl (.inl h)
   .rcases Z j h with h|h;.exact .inl (.inr h)
    .exact .inr (by omega)
   .exact .inr (by omega))
  have cQ:=ae.size;change Hid _ at aQ a3;clear a0 ae bs p1;have bs:I.cell? ⟨d.heap.size,0,none⟩=some (.int .u8 4):=cR M.out rfl;have p1:I.cell? ⟨d.heap.size,1,none⟩=some (.slice (some ⟨g,0,none⟩) l.length i):=cR M.out rfl;have bK:=aa I d.heap.size 0 _ _ M.out;have bX:=aa I d.heap.size 1 _ _ M.out;go_wp2_with fail;have aO:=heap_setCell_same I d.heap.size 0 _ _ (.int .u8 4) M.out;have bD:Hid (((I.setCell ⟨d.heap.size,0,none⟩ (.int .u8 4)).setCell ⟨d.heap.size,1,none⟩ (.slice (some ⟨g,0,none⟩) y.length i)).heap[d.heap.size]? =some (.cells #[.int .u8 4,.slice (some ⟨g,0,none⟩) y.length i] 209 (0,0))):=heap_setCell_same _ d.heap.size 1 _ _ _ aO;have ag:Hid (za (λj=>j=d.heap.size) I ((I.setCell ⟨d.heap.size,0,none⟩ (.int .u8 4)).setCell ⟨d.heap.size,1,none⟩ (.slice (some ⟨g,0,none⟩) y.length i))):=(za.setCell (S:=λj=>j=d.heap.size) I ⟨d.heap.size,0,none⟩ _ rfl).trans (za.setCell (S:=λj=>j=d.heap.size) _ ⟨d.heap.size,1,none⟩ _ rfl) iL;generalize ((I.setCell ⟨d.heap.size,0,none⟩ (.int .u8 4)).setCell ⟨d.heap.size,1,none⟩ (.slice (some ⟨g,0,none⟩) y.length i))=cL at*;clear bs p1 bK bX aO;have cW:=ag.size;have ba:Hid (cL.heap[w.heap.size+1]? =_):=(ag.block _ (by omega) (by omega)).trans bj.out;have bG:Hid _:=ag.owns aQ (λj f ah=>by simp [Value.ownBlock] at f;omega);have bR:Hid _:=qg.of_own bG (λj f=>by simp [Value.ownBlock] at f;exact f.symm) (by omega);have cc:Hid _:=a3.kept ag (λj f ah=>by have:=ar.out j f;omega) (λj f ah=>aj d.heap.size (by omega) (by omega) (by rw [<-show j=d.heap.size from ah];exact f));refine(vh cL z bd S be _ bI cc _ _ i 4 (.inl rfl) y bR bp bS L bg _ rfl).mono ?_;rintro r E ⟨rfl,⟨bh,aR,aW⟩,G⟩;have bu:Hid (Cw E z bd S bh {D with reads:=D.reads+R+ak+bE} aK):=by rw [a4.out];exact aR
  have a1:Hid (∀j,bh j->T j\/m.heap.size<=j):=λj f=>(aW j f).elim (aA j) (λh=>.inr (by omega));have aH:Hid (E.heap[d.heap.size]? =_):=(G.block _ (by omega) (aj _ (by omega) (by omega))).trans bD.out;have F:Hid (E.heap[w.heap.size+1]? =some (.cells #[.string O,.int .i64 N,.bool U,.int .i64 P,.int .i64 Q] 109 (0,0))):=(G.block _ (by omega) (aj _ (by omega) (by omega))).trans ba.out;have bq:Hid _:=(bn.trans ag (λj f=>.inr (by omega))).trans G (λj f=>(aA j f).imp .inr (λh=>by omega));have cT:=G.size;clear aR aW G
  have bo:Hid (∀u,Calls Tryz.prog 182 #[.agg #[.int .u8 4,.slice (some ⟨g,0,none⟩) y.length i]] u λe w'=>e=.returned (.bool aM)/\za (λ_=>False) u w'):=λu=>by have:=Zj u 4 (.inl rfl) (some ⟨g,0,none⟩) y.length i;rw [aT.out] at this;exact this
  have bQ:Hid (∀u,za (λ_=>False) E u->u.heap[w.heap.size+1]? =some (.cells #[.string O,.int .i64 N,.bool U,.int .i64 P,.int .i64 Q] 109 (0,0))):=λu k=>(k.block _ (by omega) id).trans F.out;have ch:E.cell? ⟨w.heap.size+1,0,none⟩=some (.string O):=cR F.out rfl;have cw:E.cell? ⟨w.heap.size+1,1,none⟩=some (.int .i64 N):=cR F.out rfl;have cB:E.cell? ⟨w.heap.size+1,2,none⟩=some (.bool U):=cR F.out rfl;have cC:E.cell? ⟨w.heap.size+1,3,none⟩=some (.int .i64 P):=cR F.out rfl;have cs:E.cell? ⟨w.heap.size+1,4,none⟩=some (.int .i64 Q):=cR F.out rfl;have c8:E.cell? ⟨d.heap.size,0,none⟩=some (.int .u8 4):=cR aH.out rfl;have c2:E.cell? ⟨d.heap.size,1,none⟩=some (.slice (some ⟨g,0,none⟩) y.length i):=cR aH.out rfl;go_wp2_with fail
  go_region_law (go_simp;go_at_call 182;refine(bo E.drew).mono ?_;rintro r H ⟨rfl,aZ⟩;have aX:Hid _:=(za.drew (λ_=>False) E).trans aZ iL;have x:=bQ.out H aX.out;have u0:H.cell? ⟨w.heap.size+1,0,none⟩=some (.string O):=(cR x rfl);have u1:H.cell? ⟨w.heap.size+1,1,none⟩=some (.int .i64 N):=(cR x rfl);have u2:H.cell? ⟨w.heap.size+1,2,none⟩=some (.bool U):=(cR x rfl);have u3:H.cell? ⟨w.heap.size+1,3,none⟩=some (.int .i64 P):=(cR x rfl);have u4:H.cell? ⟨w.heap.size+1,4,none⟩=some (.int .i64 Q):=(cR x rfl);have c3:=aa H (w.heap.size+1) 0 _ _ x;have c5:=aa H (w.heap.size+1) 1 _ _ x;have c7:=aa H (w.heap.size+1) 2 _ _ x;have c1:=aa H (w.heap.size+1) 3 _ _ x;have b4:=aa H (w.heap.size+1) 4 _ _ x;change Hid _ at x;clear aZ;dsimp only)
  all_goals
   go_wp2;obtain⟨bJ,b6⟩:=kJ H (w.heap.size+1) 109 _ _ _ _ _ (.string O) (.int .i64 N) (.bool U) (.int .i64 P) (.int .i64 Q) x.out;have a6:=(aX.mono (S':=λj=>j=w.heap.size+1) fE).trans b6 iL;refine bodyPost_ret (y5 rfl _ _ _ _ _ _ _ rfl bJ Tryz.underlying109 rfl (by kernel_rfl)) rfl ⟨rfl,⟨R+ak+bE,bh,by omega,by omega,?_,λj f=>(a1 j f).imp id (λh=>by omega)⟩,bq.trans a6 (λj f=>.inr (by omega))⟩
   have:=bu.kept a6 (λj f ah=>by have:=ar.out j f;omega) (λj f ah=>by
    rcases a1 j f with aN|aN;.have:=Y.out j aN;omega
    .omega)
   simp only [a9] at this ⊢;exact this
end prog
namespace prog
open ref
variable {b h:Nat}{p q p1 p2:Pl}
def Tr.join:{h:Nat}->Tr h->Tr h->Tr h
 |0,u,v=>(u.1,u.2++v.2)
 |_+1,u,v=>(u.1,u.2++v.2)
def Tr.cutL(m:Nat):{h:Nat}->Tr h->Tr h
 |0,u=>(u.1,u.2.take m)
 |_+1,u=>(u.1,u.2.take m)
def Tr.cutR(m b:Nat):{h:Nat}->Tr h->Tr h
 |0,u=>(b,u.2.drop m)
 |_+1,u=>(b,u.2.drop m)
theorem Uo:∀{h:Nat} (u v:Tr h),(u.join v).blk=u.blk
 |0,_,_=>rfl
 |_+1,_,_=>rfl
theorem xR:∀{h:Nat} (u v:Tr h),(u.join v).items=u.items++v.items
 |0,_,_=>rfl
 |_+1,u,v=>eh
theorem kt:∀{h:Nat} (u v:Tr h),(u.join v).ents=u.ents++v.ents
 |0,_,_=>rfl
 |h+1,u,v=>zA u.2 v.2
theorem vm:∀{h:Nat} (u v:Tr h),((u.join v).blocks++[v.blk]).Perm (u.blocks++v.blocks)
 |0,u,v=>eR _
 |h+1,u,v=>by show (u.1::zE (u.2++v.2)++[v.1]).Perm (u.1::zE u.2++v.1::zE v.2);rw [qo];refine List.Perm.trans ?_ List.perm_middle.symm;exact eM (l₂:=[v.1])
theorem JD(m b:Nat):∀{h:Nat} (u:Tr h),(u.cutL m).blk=u.blk/\(u.cutR m b).blk=b
 |0,_=>⟨rfl,rfl⟩
 |_+1,_=>⟨rfl,rfl⟩
theorem Zm(m b:Nat):∀{h:Nat} (u:Tr h),(u.cutL m).items=u.items.take m/\(u.cutR m b).items=u.items.drop m
 |0,_=>⟨rfl,rfl⟩
 |_+1,u=>⟨iP,ms⟩
theorem Up(m b:Nat):∀{h:Nat} (u:Tr h),(u.cutL m).ents++(u.cutR m b).ents=u.ents
 |0,u=>aE m u.2
 |h+1,u=>by show zJ (u.2.take m)++zJ (u.2.drop m)=zJ u.2;rw [<-zA,aE]
theorem XW(m b:Nat):∀{h:Nat} (u:Tr h),((u.cutL m).blocks++(u.cutR m b).blocks).Perm (u.blocks++[b])
 |0,u=>eR _
 |h+1,u=>by show (u.1::zE (u.2.take m)++b::zE (u.2.drop m)).Perm (u.1::zE u.2++[b]);refine List.perm_middle.trans ?_;rw [aT,<-qo,aE];exact eM (l₁:=[b])
theorem Zn:∀{h:Nat} {u v:Tr h} {p:Pl},u.Good->v.Good->v.First p->(∀e∈u.ents,e.pl.lt p=true)->(u.join v).Good
 |0,u,v,p,gu,gv,_,_=>⟨gu.1,λe b=>(ah.1 b).elim (gu.2 e) (gv.2 e)⟩
 |h+1,u,v,p,gu,gv,⟨v0,r,hv⟩,hlt=>by
  have f:=gu.kids;have g:=gv.kids
  have j:∀a∈u.2,a.1.lt p=true:=λa d=>by obtain⟨e,b⟩:=(f.good a d).1.some_ent (by have:=gu.full a d;omega);obtain⟨A,B,i⟩:=iX d;obtain⟨q,t⟩:=a;have:=(f.seps A q t B i).2.1 e (by rw [zr];exact af _ b);exact Pl.lt_of_not this (hlt e (vC d b))
  have k:Kids (u.2++v.2):=by rw [hv] at g ⊢;exact f.join g hlt j
  exact k.node (λc l=>(ah.1 l).elim (gu.full c) (gv.full c)) gu.1
theorem XX:∀{h:Nat} {u v:Tr h} {p:Pl},u.First p->(u.join v).First p
 |0,_,_,_,_=>eI
 |h+1,u,v,p,⟨u0,r,hu⟩=>⟨u0,r++v.2,by show u.2++v.2=_;rw [hu];rfl⟩
theorem Uq(m b:Nat)(f:b<65536):∀{h:Nat} {u:Tr h},u.Good->(u.cutL m).Good/\(u.cutR m b).Good
 |0,u,g=>⟨⟨g.1,λe a=>g.2 e (aP a)⟩,⟨f,λe a=>g.2 e (eK a)⟩⟩
 |h+1,u,g=>by
  have k:Kids (u.2.take m++u.2.drop m):=by rw [aE];exact g.kids
  exact⟨k.left.node (λc d=>g.full c (aP d)) g.1,k.right.node (λc d=>g.full c (eK d)) f⟩
theorem KI{m:Nat}(a:1<=m):∀{h:Nat} {u:Tr h} {p:Pl},u.First p->(u.cutL m).First p
 |0,_,_,_=>eI
 |h+1,u,p,⟨u0,r,hu⟩=>⟨u0,r.take (m-1),by
  show u.2.take m=_
  rw [hu,show m=(m-1)+1 from by omega,iz];rfl⟩
theorem Ur{m:Nat}(d:En):∀{h:Nat} {u:Tr h},u.Good->yO u.ents->m<u.items.length->(u.cutR m b).First (u.items.getD m d).pl/\(u.items.getD m d).pl.Ok/\(∀f∈(u.cutL m).ents,f.pl.lt (u.items.getD m d).pl=true)/\(∀f∈(u.cutR m b).ents,¬f.pl.lt (u.items.getD m d).pl=true)
 |0,u,g,hs,hm=>by
  have c:m<u.2.length:=hm;have i:u.items.getD m d=u.2[m]:=by show u.2.getD m d=_;rw [aA,aH c];rfl
  have e:u.2.drop m=u.2[m]::u.2.drop (m+1):=aI c;have k:yO (u.2.take m++u.2[m]::u.2.drop (m+1)):=by rw [<-e,aE];exact hs
  have j:=aX.1 k;rw [i];refine⟨eI,(g.2 _ (ai c)).pl,λf a=>j.2.2 f a _ (al ..),λf a=>?_⟩;have a:f∈u.2.drop m:=a;rw [e] at a;rcases ar.1 a with rfl|a;.exact Pl.irrefl _
  .exact Pl.asymm ((aL.1 j.2.1).1 f a)
 |h+1,u,g,hs,hm=>by
  have c:m<u.2.length:=by rw [yL] at hm;exact hm
  have i:(u.items.getD m d).pl=u.2[m].1:=by rw [aA,aH hm];simp [Tr.items]
  have e:=aI c;have l:Kids (u.2.take m++(u.2[m].1,u.2[m].2)::u.2.drop (m+1)):=by rw [<-e,aE];exact g.kids
  obtain⟨t,r,n,o,s,p,q⟩:=l.mid;rw [i];refine⟨⟨_,_,e⟩,(l.right.good _ (al ..)).2.2,n,λf a=>o f ?_⟩;rw [<-e];exact a
structure bC {h:Nat} (t:Tr h) (p:Pl) (t':Tr h):Prop where
 blk:t'.blk=t.blk
 good:t'.Good
 lo:t.items.length<=t'.items.length+1
 hi:t'.items.length<=6
 ents:t'.ents=qT p t.ents
 first:∀q,t.First q->t'.First q
theorem yO.erase{l:List En}(h:yO l)(p:Pl)(b:zt l p<l.length)(a:l[zt l p].pl=p):l.eraseIdx (zt l p)=qT p l:=by
 rw [lr];exact(h.find p).1 b a
theorem KJ{a:List En}(g:Tr.Good (h:=0) (b,a))(e:yO a)(j:a.length<=6)(c:zt a p<a.length)(d:a[zt a p].pl=p):bC (h:=0) (b,a) p (b,qT p a):=by
 have k:(qT p a).length+1=a.length:=by rw [<-e.erase p c d,iC c];omega
 refine⟨rfl,⟨g.1,λi f=>g.2 i (dJ.1 f).1⟩,?_,?_,rfl,λ_ _=>eI⟩;.show a.length<=(qT p a).length+1;omega
 .show (qT p a).length<=6;omega
theorem Kids.unroute{A B:List (Pl×Tr h)}{tc:Tr h}(k:Kids (A++(q,tc)::B))(l:A≠[]->¬p.lt q=true)(m:∀b∈B,p.lt b.1=true):
 (∀d∈zJ A,d.pl≠p)/\(∀d∈zJ B,d.pl≠p):=by
 obtain⟨t,r,j,u,s,o,i⟩:=k.mid;refine⟨λd a e=>?_,λd a e=>?_⟩
 .have n:A≠[]:=λg=>by rw [g] at a;simp [zJ] at a
  exact l n (e▸j d a)
 .obtain⟨c,f,a⟩:=VX a;exact i c f d a (e▸m c f)
theorem vN{A B:List (Pl×Tr h)}{tc tc':Tr h}(d:Kids (A++(q,tc)::B))(j:A≠[]->¬p.lt q=true)(n:∀b∈B,p.lt b.1=true)(k:bC tc p tc'):
 Kids (A++(q,tc')::B)/\zJ (A++(q,tc')::B)=qT p (zJ (A++(q,tc)::B)):=by
 obtain⟨t,r,s,m,g,f,o⟩:=d.mid;have e:∀c∈tc'.ents,c∈tc.ents:=λc a=>by rw [k.ents] at a;exact(dJ.1 a).1
 refine⟨d.swap k.good k.hi (k.first _ g) (λc a=>m c (by rw [zr];exact af _ (e c a))) (λb i c a=>f b i c (av _ (e c a))),?_⟩;obtain⟨l,h2⟩:=d.unroute j n;rw [zA,zr,zA,zr,jI,jI,jk l,jk h2,k.ents]
theorem YA{A B:List (Pl×Tr h)}{tc tc':Tr h}(g:Tr.Good (h:=h+1) (b,A++(q,tc)::B))(f:(A++(q,tc)::B).length<=6)(j:A≠[]->¬p.lt q=true)(m:∀b∈B,p.lt b.1=true)(k:bC tc p tc')(i:3<=tc'.items.length):
 bC (h:=h+1) (b,A++(q,tc)::B) p (b,A++(q,tc')::B):=by
 obtain⟨l,h2⟩:=vN g.kids j m k;have d:=g.full;simp only at d;refine⟨rfl,l.node (λc a=>?_) g.1,?_,?_,h2,λp e=>jl e⟩
 .rcases ah.1 a with a|a;.exact d c (af _ a)
  .rcases ar.1 a with rfl|a;.exact i
   .exact d c (by simp [a])
 .rw [zx,zx];simp
 .rw [zx];simpa using f
theorem Kids.less{X l:List (Pl×Tr h)}{u v:Tr h}(k:Kids (X++(p1,u)::(p2,v)::l)):Kids (X++(p1,u)::l):=by
 obtain⟨n,i,j,p,m,g,q⟩:=k.mid;have f:=k.right;have d:=f.good (p1,u) (al ..);have o:Kids l:=Kids.right (A:=[(p1,u),(p2,v)]) f;refine k.left.join (o.cons d.1 d.2.1 d.2.2 m (λe c=>p e (by rw [zr];exact af _ c)) (λb a=>i b (am _ a)) (λb a e c=>g b (am _ a) e (av _ c))) j n
theorem Kids.pair{X g:List (Pl×Tr h)}{u v:Tr h}(k:Kids (X++(p1,u)::(p2,v)::g))(f:yO (zJ (X++(p1,u)::(p2,v)::g))):
 (u.join v).Good/\(u.join v).First p1/\yO (u.join v).ents/\(∀e∈(u.join v).ents,¬e.pl.lt p1=true)/\(∀b∈g,∀e∈(u.join v).ents,e.pl.lt b.1=true):=by
 obtain⟨x,s,w,p,n,i,r⟩:=k.mid;have k2:Kids ((X++[(p1,u)])++(p2,v)::g):=by rw [ak];exact k
 obtain⟨z,A,o,y,l,j,t⟩:=k2.mid;have q:=k.good (p1,u) (by simp);have m:=k.good (p2,v) (by simp);have c:∀e∈u.ents,e.pl.lt p2=true:=λe a=>o e (by rw [zA];exact av _ (by rw [zr];exact af _ a));refine⟨Zn q.1 m.1 l c,XX n,?_,λe a=>?_,λb d e a=>?_⟩
 .rw [kt];rw [zA,zr,zr,<-ak u.ents] at f;exact(aX.1 (aX.1 f).2.1).1
 .rw [kt] at a;refine p e ?_;rw [zr,zr,<-ak];exact af _ a
 .rw [kt] at a;rcases ah.1 a with a|a;.exact i b (am _ d) e (av _ a)
  .exact j b d e (av _ a)
theorem Zo{b':Nat}{A B X d Y':List (Pl×Tr h)}{tc tc' u u':Tr h}(e:A++(q,tc')::B=X++(p1,u)::d)(c:Tr.First (h:=h+1) (b,A++(q,tc)::B) p):Tr.First (h:=h+1) (b',X++(p1,u')::Y') p:=by
 have a:Tr.First (h:=h+1) (b,A++(q,tc')::B) p:=jl c;rw [e] at a;exact jl a
structure KL {h:Nat} (A B:List (Pl×Tr h)) (q:Pl) (tc':Tr h) (X Y:List (Pl×Tr h)) (p1 p2:Pl) (u v:Tr h):Prop where
 eq:A++(q,tc')::B=X++(p1,u)::(p2,v)::Y
 at_:max A.length 1=X.length+1
 out:∀c,c∈X\/c∈Y->c∈A\/c∈B
 two:((p1,u)∈A/\(p2,v)=(q,tc'))\/((p2,v)∈B/\(p1,u)=(q,tc'))
theorem U9(A B:List (Pl×Tr h))(q:Pl)(tc':Tr h)(h2:2<=(A++(q,tc')::B).length):∃X d p1 p2 u v,KL A B q tc' X d p1 p2 u v:=by
 rcases List.eq_nil_or_concat A with rfl|⟨X,⟨p1,u⟩,rfl⟩
 .cases B with
  |nil=>simp at h2
  |cons b B=>exact⟨[],B,q,b.1,tc',b.2,rfl,by simp,λc a=>.inr (by rcases a with a|a;cases a;exact am _ a),.inr ⟨al ..,rfl⟩⟩
 .refine⟨X,B,p1,q,u,tc',by simp,by simp,λc a=>a.imp (λh=>by simp [h]) id,.inl ⟨by simp,rfl⟩⟩
theorem Us{A B X l:List (Pl×Tr h)}{tc tc' u v:Tr h}(g:Tr.Good (h:=h+1) (b,A++(q,tc)::B))(r:(A++(q,tc)::B).length<=6)(w:yO (zJ (A++(q,tc)::B)))(C:A≠[]->¬p.lt q=true)(D:∀b∈B,p.lt b.1=true)(k:bC tc p tc')
 (P:KL A B q tc' X l p1 p2 u v) (z:(u.items++v.items).length<=6):bC (h:=h+1) (b,A++(q,tc)::B) p (b,X++(p1,u.join v)::l):=by
 obtain⟨j,h2⟩:=vN g.kids C D k;have f:yO (zJ (A++(q,tc')::B)):=by rw [h2];exact w.del
 have d:=g.full;simp only at d;have e:(A++(q,tc)::B).length=(X++(p1,u)::(p2,v)::l).length:=by rw [<-P.eq];simp
 have m:=λp n=>Zo (b':=b) (u':=u.join v) (Y':=l) (p:=p) (b:=b) (tc:=tc) P.eq n;rw [P.eq] at j h2 f;obtain⟨s,E,F,x,o⟩:=j.pair f
 have t:3<=(u.items++v.items).length:=by
  rw [ag];rcases P.two with⟨i,_⟩|⟨i,_⟩;.have:=d _ (af _ i);simp only at this;omega
  .have:=d (p2,v) (by simp [i]);simp only at this;omega
 have y:=j.less.swap s (by rw [xR];exact z) E x o;refine⟨rfl,y.node (λc a=>?_) g.1,?_,?_,?_,m⟩
 .rcases ah.1 a with a|a
  .rcases P.out c (.inl a) with a|a;.exact d c (af _ a)
   .exact d c (by simp [a])
  .rcases ar.1 a with rfl|a
   .show 3<=(u.join v).items.length;rw [xR];exact t
   .rcases P.out c (.inr a) with a|a;.exact d c (af _ a)
    .exact d c (by simp [a])
 .rw [zx,zx,e];simp;omega
 .rw [zx];simp at e r ⊢;omega
 .show zJ (X++(p1,u.join v)::l)=qT p (zJ (A++(q,tc)::B));rw [<-h2,zA,zr,zA,zr,zr,kt,ak]
theorem Ut{A B X x:List (Pl×Tr h)}{tc tc' u v:Tr h}(g:Tr.Good (h:=h+1) (b,A++(q,tc)::B))(U:(A++(q,tc)::B).length<=6)(V:yO (zJ (A++(q,tc)::B)))(Q:A≠[]->¬p.lt q=true)(aa:∀b∈B,p.lt b.1=true)(k:bC tc p tc')
 (P:KL A B q tc' X x p1 p2 u v) (Y:6<(u.items++v.items).length) (d:En) (m:Nat) (Z:m=(u.items++v.items).length/2):bC (h:=h+1) (b,A++(q,tc)::B) p (b,X++(p1,(u.join v).cutL m)::(((u.items++v.items).getD m d).pl,(u.join v).cutR m v.blk)::x):=by
 obtain⟨j,h2⟩:=vN g.kids Q aa k;have o:yO (zJ (A++(q,tc')::B)):=by rw [h2];exact V.del
 have f:=g.full;simp only at f;have l:(A++(q,tc)::B).length=(X++(p1,u)::(p2,v)::x).length:=by rw [<-P.eq];simp
 rw [<-xR] at Z Y ⊢;have H:=λp T=>Zo (b':=b) (u':=(u.join v).cutL m) (Y':=(((u.join v).items.getD m d).pl,(u.join v).cutR m v.blk)::x) (p:=p) (b:=b) (tc:=tc) P.eq T;rw [P.eq] at j h2 o;obtain⟨w,ac,M,z,s⟩:=j.pair o;have ab:=(j.good (p1,u) (by simp)).2.1;have y:=j.good (p2,v) (by simp);have ad:(u.join v).items.length<=12:=by rw [xR,ag];simp only at ab y;omega
 obtain⟨D,E⟩:=Uq m v.blk y.1.blk w;obtain⟨R,K,t,I⟩:=Ur (m:=m) (b:=v.blk) d w M (by omega);obtain⟨W,L⟩:=Zm m v.blk (u.join v);have n:=Up m v.blk (u.join v);have ae:((u.join v).cutL m).items.length=m:=by rw [W,aC];omega
 have ai:((u.join v).cutR m v.blk).items.length=(u.join v).items.length-m:=by rw [L,aS]
 obtain⟨O,G⟩:=D.some_ent (by omega);obtain⟨S,F⟩:=E.some_ent (by omega);have C:∀e∈((u.join v).cutL m).ents,e∈(u.join v).ents:=λe i=>by rw [<-n];exact af _ i
 have J:∀e∈((u.join v).cutR m v.blk).ents,e∈(u.join v).ents:=λe i=>by rw [<-n];exact av _ i
 have N:=j.less.parted D E (by omega) (by omega) K (KI (by omega) ac) R (Pl.lt_of_not (z O (C O G)) (t O G)) t I (λe i=>z e (C e i)) (λb r e i=>s b r e (J e i)) (λb r=>Pl.lt_of_not (I S F) (s b r S (J S F)));refine⟨rfl,N.node (λc a=>?_) g.1,?_,?_,?_,H⟩
 .rcases ah.1 a with a|a
  .rcases P.out c (.inl a) with a|a;.exact f c (af _ a)
   .exact f c (by simp [a])
  .rcases ar.1 a with rfl|a;.show 3<=((u.join v).cutL m).items.length;omega
   .rcases ar.1 a with rfl|a;.show 3<=((u.join v).cutR m v.blk).items.length;omega
    .rcases P.out c (.inr a) with a|a;.exact f c (af _ a)
     .exact f c (by simp [a])
 .rw [zx,zx,l];simp
 .rw [zx];simp at l U ⊢;omega
 .show zJ (X++(p1,(u.join v).cutL m)::(((u.join v).items.getD m d).pl,(u.join v).cutR m v.blk)::x)=qT p (zJ (A++(q,tc)::B));rw [<-h2,zA,zr,zr,zA,zr,zr,<-ak (Tr.ents _),n,kt,ak]
end prog
namespace prog
open Go.RowKit disk ref
variable {D:Dk}{C:Ck}{m:List UInt8}
theorem Zp(C:Ck)(D:Dk)(i:Int):C.look D i=match C.ws.find? (λp=>decide ((p.1:Int)=i)) with
 |some p=>p.2
 |none=>D.look i:=by
 cases h:yg C.ws i with
 |none=>
  rw [kg h];unfold yg at h;rw [im] at h;rw [lz.2 (λg f=>by rw [h g f];simp)]
 |some k=>
  obtain⟨a,d,h2⟩:=xH (D:=D) h;unfold yg at h;rw [eQ] at h;obtain⟨_,e,c⟩:=h;have:C.ws.find? (λp=>decide ((p.1:Int)=i))=some C.ws[k]:=List.find?_eq_some_iff_getElem.2 ⟨e,k,a,rfl,λj b=>by simpa using c j b⟩;rw [this,d]
theorem YB(C:Ck)(D:Dk)(i j:Int)(h:j≠i):Ck.look {C with ws:=fL C.ws i} D j=C.look D j:=by
 rw [Zp,Zp];show (match (fL C.ws i).find? _ with|some p=>p.2|none=>D.look j)=_;unfold fL;rw [List.find?_filter]
 have e:(λa:Nat×List Value=>decide ((!decide ((a.1:Int)=i))=true/\decide ((a.1:Int)=j)=true))=λa=>decide ((a.1:Int)=j):=by
  funext a;by_cases b:(a.1:Int)=j
  .have h2:¬(a.1:Int)=i:=by omega
   simp [b,h]
  .simp [b]
 rw [e]
theorem fg(C:Ck)(D:Dk)(m:List UInt8)(i j:Nat)(h2:j≠2)(a:j≠i+21):(C.free m i).look D (j:Nat)=C.look D (j:Nat):=by
 unfold Ck.free;rw [YB _ _ _ _ (by omega),z9 _ _ _ _ _ (by omega)]
theorem Uu(C:Ck)(D:Dk)(m:List UInt8)(i:Nat):(C.free m i).look D 2=zm (zS (jR m i)):=by
 unfold Ck.free;rw [YB _ _ _ _ (by omega)];exact qn C D 2 _
theorem fh(C:Ck)(m:List UInt8)(i:Nat):List.Sublist (C.free m i).keys (C.put 2 (zm (zS (jR m i)))).keys:=by
 unfold Ck.free Ck.keys;exact List.Sublist.map _ List.filter_sublist
theorem bD(C:Ck)(m:List UInt8)(i:Nat):(C.free m i).ws.length<=C.ws.length+1:=by
 rw [<-Ck.keys_len,<-Ck.keys_len];refine aD (fh C m i).length_le ?_;rw [Ck.keys_len,Ck.keys_len];exact qy _ _ _
structure b8 (D:Dk) (C:Ck) (m:List UInt8):Prop where
 map:qF (C.look D 2) m
 full:C.full=false
 nodup:C.keys.Nodup
structure gi (D:Dk) (C C':Ck) (m m':List UInt8) (pb fb:List Nat):Prop where
 taken:∀i,zU m' i=(zU m i&&decide (i+21∉fb))
 look:∀j:Nat,j∉pb->j∉fb->j≠2->C'.look D j=C.look D j
 keys:∀k∈C'.keys,k∈C.keys\/k∈pb\/k=2
theorem gi.refl(D:Dk)(C:Ck)(m:List UInt8):gi D C C m m [] []:=⟨λi=>by simp,λ_ _ _ _=>rfl,λ_ h=>.inl h⟩
theorem gi.trans{l f:Ck}{n e:List UInt8}{p1 p2 d c:List Nat}(h:gi D C l m n p1 d)(k:gi D l f n e p2 c):gi D C f m e (p1++p2) (d++c) where
 taken:=λi=>by rw [k.taken,h.taken,Bool.and_assoc];congr 1;simp [ah,not_or]
 look:=λj b h2 g=>by rw [ah,not_or] at b h2;rw [k.look j b.2 h2.2 g,h.look j b.1 h2.1 g]
 keys:=λo a=>by
  simp only [ah];rcases k.keys o a with a|a|a
  .rcases h.keys o a with a|a|a;.exact .inl a
   .exact .inr (.inl (.inl a))
   .exact .inr (.inr a)
  .exact .inr (.inl (.inr a))
  .exact .inr (.inr a)
theorem gi.put(D:Dk)(C:Ck)(m:List UInt8)(i:Nat)(b:List Value):gi D C (C.put i b) m m [i] [] where
 taken:=λi=>by simp
 look:=λj c _ _=>z9 C D i b j (λe=>c (by rw [az];omega))
 keys:=λk a=>((xl C i b k).1 a).elim .inl (λe=>.inr (.inl (by rw [e];simp)))
theorem b8.put(h:b8 D C m){i:Nat}(a:i≠2)(b:List Value):b8 D (C.put i b) m:=
 ⟨h.map.put i b a,by rw [qJ];exact h.full,yM h.nodup i b⟩
theorem gi.free(h:b8 D C m){i:Nat}(c:i<979):gi D C (C.free m i) m (jR m i) [] [i+21] where
 taken:=λj=>by rw [Kp (by rw [h.map.len];omega)];congr 1;simp
 look:=λj _ a h2=>fg C D m i j h2 (by simpa using a)
 keys:=λk b=>by
  rcases (xl C 2 _ k).1 ((fh C m i).subset b) with a|a;.exact .inl a
  .exact .inr (.inr a)
theorem b8.free(h:b8 D C m)(i:Nat):b8 D (C.free m i) (jR m i):=
 ⟨⟨by rw [VP];exact h.map.len,.inl (Uu C D m i)⟩,by show (C.put 2 _).full=false;rw [qJ];exact h.full,(fh C m i).nodup (yM h.nodup _ _)⟩
theorem gi.sub{c:Ck}{f:List UInt8}{e a fb:List Nat}(h:gi D C c m f e fb)(l:∀j∈e,j∈a\/j∈fb)(i:∀k∈c.keys,k∈e->k∈a):gi D C c m f a fb where
 taken:=h.taken
 look:=λj d h2 n=>h.look j (λg=>(l j g).elim d h2) h2 n
 keys:=λk b=>(h.keys k b).imp id (λd=>d.imp (i k b) id)
end prog
namespace prog
open ref
variable {h b:Nat}{q p1 p2:Pl}{fb:List Nat}
theorem YC{β:Type}{pg:Pg->β}{rd f:Nat->β}:∀{h:Nat} {u v:Tr h},u.LayV pg rd->v.LayV pg rd->(u.blocks++v.blocks).Nodup->f u.blk=pg (zc (zO h) (u.items++v.items))->(∀j∈u.blocks++v.blocks,j≠u.blk->j≠v.blk->f j=rd j)->(u.join v).LayV pg f
 |0,u,v,_,_,_,hb,_=>hb
 |h+1,u,v,lu,lv,hn,hb,e=>by
  have g:(u.1::zE u.2++v.1::zE v.2).Nodup:=hn;rw [aN,iM,iM] at g;obtain⟨⟨m,_⟩,⟨h2,_⟩,l⟩:=g;refine⟨?_,λc d=>?_⟩;.rw [xR];exact hb
  .have k:c∈u.2++v.2:=d;rcases ah.1 k with d|d
   .refine(lu.2 c d).congr (λj i=>?_);have a:=zV d i;exact e j (af _ (am _ a)) (λb=>m (by rw [show j=u.1 from b] at a;exact a)) (λb=>l j (am _ a) v.1 (al ..) b)
   .refine(lv.2 c d).congr (λj i=>?_);have a:=zV d i;exact e j (av _ (am _ a)) (λb=>l u.1 (al ..) j (am _ a) b.symm) (λb=>h2 (by rw [show j=v.1 from b] at a;exact a))
theorem Ga{β:Type}{pg:Pg->β}{rd:Nat->β}(m b:Nat):∀{h:Nat} {u:Tr h},(∀(d:Nat->β),d u.blk=pg (zc (zO h) u.items)->(∀j,j≠u.blk->d j=rd j)->u.LayV pg d)->u.blk∉u.blocks.tail->rd u.blk=pg (zc (zO h) (u.items.take m))->rd b=pg (zc (zO h) (u.items.drop m))->(u.cutL m).LayV pg rd/\(u.cutR m b).LayV pg rd
 |0,u,_,_,h1,h2=>⟨h1,h2⟩
 |h+1,u,l,hn,h1,h2=>by
  have k:=l (λj=>if j=u.blk then pg (zc 4 u.items) else rd j) (by simp [zO]) (λj f=>aw f)
  have g:∀c∈u.2,c.2.LayV pg rd:=λc a=>(k.2 c a).congr (λj f=>(aw (λe=>hn (by
   have:j∈zE u.2:=zV a f
   rw [e] at this;exact this))).symm)
  obtain⟨i,n⟩:=Zm m b u;exact⟨⟨by rw [i];exact h1,λc a=>g c (aP a)⟩,⟨by rw [n];exact h2,λc a=>g c (eK a)⟩⟩
theorem jM{A B:List (Pl×Tr h)}{tc tc':Tr h}(c:(tc'.blocks++fb).Perm tc.blocks):
 (Tr.blocks (h:=h+1) (b,A++(q,tc')::B)++fb).Perm (Tr.blocks (h:=h+1) (b,A++(q,tc)::B)):=by
 show (b::zE (A++(q,tc')::B)++fb).Perm (b::zE (A++(q,tc)::B));rw [lJ] at c ⊢;intro a;have:=c a;simp only [qo,qB,aT,l4,mL] at this ⊢;omega
theorem dc{A B X e:List (Pl×Tr h)}{tc tc' u v:Tr h}(d:(tc'.blocks++fb).Perm tc.blocks)(P:KL A B q tc' X e p1 p2 u v):
 (Tr.blocks (h:=h+1) (b,X++(p1,u.join v)::e)++(fb++[v.blk])).Perm (Tr.blocks (h:=h+1) (b,A++(q,tc)::B)):=by
 refine List.Perm.trans ?_ (jM d);show (b::zE (X++(p1,u.join v)::e)++(fb++[v.blk])).Perm (b::zE (A++(q,tc')::B)++fb);have c:=vm u v;rw [P.eq];rw [lJ] at c ⊢;intro a;have:=c a;simp only [qo,qB,aT,l4,mL,List.count_nil] at this ⊢;omega
theorem dd{A B X f:List (Pl×Tr h)}{q':Pl}{tc tc' u v:Tr h}(m:Nat)(e:(tc'.blocks++fb).Perm tc.blocks)(P:KL A B q tc' X f p1 p2 u v):
 (Tr.blocks (h:=h+1) (b,X++(p1,(u.join v).cutL m)::(q',(u.join v).cutR m v.blk)::f)++fb).Perm (Tr.blocks (h:=h+1) (b,A++(q,tc)::B)):=by
 refine List.Perm.trans ?_ (jM e);show (b::zE (X++(p1,(u.join v).cutL m)::(q',(u.join v).cutR m v.blk)::f)++fb).Perm (b::zE (A++(q,tc')::B)++fb);have c:=vm u v;have d:=XW m v.blk (u.join v);rw [P.eq];rw [lJ] at c d ⊢;intro a;have:=c a;have:=d a;simp only [qo,qB,aT,l4,mL,List.count_nil] at*;omega
def jS{h:Nat}(c:Pl×Tr h):En:=⟨c.1,false,0,c.2.blk⟩
theorem XY{A B X c:List (Pl×Tr h)}{tc tc' u v:Tr h}(b:tc'.blk=tc.blk)(P:KL A B q tc' X c p1 p2 u v):
 (A++(q,tc)::B).map jS=X.map jS++jS (p1,u)::jS (p2,v)::c.map jS:=by
 have a:(A++(q,tc)::B).map jS=(A++(q,tc')::B).map jS:=by simp [jS,b]
 rw [a,P.eq];simp
theorem Gb{X e:List En}{b f z:En}{r:Nat}(d:r=X.length+1)(a:List En)(c:a=X++b::f::e):r<a.length/\(∀(h:r-1<a.length),a[r-1]=b)/\(∀(h:r<a.length),a[r]=f)/\a.eraseIdx r=X++b::e/\a.set r z=X++b::z::e:=by
 subst d c;refine⟨by simp,λh=>by simp,λh=>?_,?_,?_⟩;.simp [i6]
 .rw [List.eraseIdx_append_of_length_le (by omega)];simp
 .rw [List.set_append_right _ _ (by omega)];simp
end prog
end Go.Proofs.YtcoengihaobddaaGreatDoor

/- Part 29 of 36 of a proof: Rem10, Rem8, Tr6, Shr1, Tr7 -/
import Derived.Test.YtcoengihaobddaaGreatDoorJb28
set_option maxHeartbeats 8000000
set_option linter.unusedVariables false
set_option linter.unusedSimpArgs false
set_option maxRecDepth 8000
namespace Go.Proofs.YtcoengihaobddaaGreatDoor
namespace prog
open Go.ChangeShapes Go.WideShapes Go.ChangeAt Go.RowKit disk ref
open keys (zh zd zx zq)
structure jA (bc bd:Nat) (S T:Nat->Prop) (D:Dk) (C:Ck) (root:Nat) (p:Pl) (root':Nat) (v:List Value) (ok:Bool) (C':Ck):Prop where
 go:∀(w:World) (r:Int),0<=r->r<=4611686018427360000->Cw w bc bd S T {D with reads:=r} C->
  Calls Tryz.prog 79 #[.pointer (some ⟨bc,0,none⟩),.int .i64 root,.agg #[.string p.key,.int .i64 p.num]] w λx w'=>x=.returned (.tuple #[.int .i64 (root':Int),.agg v.toArray,.bool ok])/\(∃(n:Int) (T':Nat->Prop),0<=n/\n<=27/\Cw w' bc bd S T' {D with reads:=r+n} C'/\∀j,T' j->T j\/w.heap.size<=j)/\za (λj=>j=bd\/T j) w w'
theorem jb{P:Program}{fn:Func}{p u v:Tmp}{b:TypeId}(h:fn.results=#[.tmp u,.cell p b,.tmp v])(tmps:Array Value)(w:World)(g:Nat)(t:TypeId)(a:Array Value)(c:Nat×Nat)(d:TypeDesc)
 (i:tmps.getD p undef=.pointer (some ⟨g,0,none⟩)) (f:w.heap[g]? =some (.cells a t c))
 (l:P.underlying b=some d) (j:(match d with|.struct _|.array _ _=>true|_=>false)=true) (k:(P.info? b).map (·.size)=some a.size):
 (results fn tmps).run P w=.ok (.tuple #[tmps.getD u undef,.agg a,tmps.getD v undef]) w:=by
 have e:tmps[p]?.getD undef=.pointer (some ⟨g,0,none⟩):=by simpa using i
 simp [results,h,e,asAddr,run_loadVar_row w g t b a c d f l j k]
theorem Yz(w:World)(d:Nat)(p:Pl)(a:Nat)(c:a=0):Calls Tryz.prog 79 #[.pointer (some ⟨d,0,none⟩),.int .i64 (a:Int),.agg #[.string p.key,.int .i64 p.num]] w λf w'=>f=.returned (.tuple #[.int .i64 (a:Int),.agg qx.toArray,.bool false])/\za (λ_=>False) w w':=by
 have e:((a:Int)==0)=true:=by rw [c];rfl
 clear c;unfold qx;go_enter Tryz.func79,Tryz.ntmps79;go_wp2;have b:=Ul w p;exact bodyPost_ret (jb rfl _ _ _ _ _ _ _ rfl b.res Tryz.underlying109 rfl (by kernel_rfl)) rfl ⟨rfl,b.kept⟩
def GK(bc bd:Nat)(S:Nat->Prop)(D:Dk)(C1:Ck)(root:Nat)(s:Bool)(root':Nat)(C2:Ck):Prop:=
 (s=false/\root'=root/\C2=C1)\/(s=true/\∀(w0:World) (T0:Nat->Prop) (r:Int),0<=r->r<=4611686018427380000->Cw w0 bc bd S T0 {D with reads:=r} C1->Calls Tryz.prog 142 #[.pointer (some ⟨bc,0,none⟩),.int .i64 (root:Int)] w0 λx w'=>x=.returned (.int .i64 (root':Nat))/\(∃(n:Int) (T':Nat->Prop),0<=n/\n<=2/\Cw w' bc bd S T' {D with reads:=r+n} C2/\∀j,T' j->T0 j\/w0.heap.size<=j)/\za (λj=>j=bd\/T0 j) w0 w')
theorem vi(w:World)(y bd:Nat)(S T:Nat->Prop)(D:Dk)(C:Ck)(r:Int)(h:Cw w y bd S T {D with reads:=r} C)(am:0<=r)(p:Pl)(ae q:Nat)(aE:q≠0)(aC:r+(4*ae:Nat)<=4611686018427370000)(a3:ae<=6)(v:List Value)(aQ:∃(c:ByteArray) (f:Int) (d:Bool) (e g:Int),v=[.string c,.int .i64 f,.bool d,.int .i64 e,.int .i64 g])(s O:Bool)(av:Ck)(au:gg y bd S T D C ae q p v s O av)(b:Nat)(u:Ck)(o:GK y bd S D av q s b u):
 Calls Tryz.prog 79 #[.pointer (some ⟨y,0,none⟩),.int .i64 q,.agg #[.string p.key,.int .i64 p.num]] w λak w'=>ak=.returned (.tuple #[.int .i64 (b:Int),.agg v.toArray,.bool O])/\(∃(n:Int) (m:Nat->Prop),0<=n/\n<=27/\Cw w' y bd S m {D with reads:=r+n} u/\∀j,m j->T j\/w.heap.size<=j)/\za (λj=>j=bd\/T j) w w':=by
 have I:Hid _:=h;obtain⟨c,f,d,e,g,rfl⟩:=aQ;change Hid _ at au o;clear h;have a8:=I.disk.lt bd I.disk.bdS;have F:Hid _:=I.chg.lt;have aw:Hid _:=I.disk.lt;have be:=beq_false_of_ne (by omega);have P:Hid _:=Ul w p;go_enter Tryz.func79,Tryz.ntmps79;go_wp2_with fail;generalize ((w.alloc (.cells #[.string p.key,.int .i64 p.num] 107)).alloc (.cells #[.string ⟨#[]⟩,.int .i64 0,.bool false,.int .i64 0,.int .i64 0] 109))=aD at*;have a5:=P.size;refine(au.go aD r am aC (I.kept0 P.kept)).mono ?_;rintro ak a ⟨rfl,⟨af,ag,ao,ba,L,t⟩,E⟩;have bb:=E.size;have aj:Hid (∀j,w.heap.size<=j->¬(j=bd\/T j)):=λj l ab=>ab.elim (λh=>by omega) (λh=>by have:=F.out j h;omega);have Z:Hid (a.heap[w.heap.size+1]? =_):=(E.block _ (by omega) (aj _ (by omega))).trans P.res;change Hid _ at L t E;rcases o.out with⟨rfl,Y,W⟩|⟨rfl,K⟩
 case' inr=>
  change Hid _ at K
 case' inl=>
  change Hid _ at Y W
 all_goals
  clear o;go_wp2_with fail;have G:Hid (za (λ_=>False) a (a.alloc (.cells #[.string c,.int .i64 f,.bool d,.int .i64 e,.int .i64 g] 109))):=za.alloc _ _ _;have R:Hid ((a.alloc (.cells #[.string c,.int .i64 f,.bool d,.int .i64 e,.int .i64 g] 109)).heap[a.heap.size]? =some (.cells #[.string c,.int .i64 f,.bool d,.int .i64 e,.int .i64 g] 109 (0,0))):=ac a _;have a4:(a.alloc (.cells #[.string c,.int .i64 f,.bool d,.int .i64 e,.int .i64 g] 109)).heap.size=a.heap.size+1:=by simp
  generalize (a.alloc (.cells #[.string c,.int .i64 f,.bool d,.int .i64 e,.int .i64 g] 109))=A at*;have x:Hid (A.heap[w.heap.size+1]? =_):=(G.block _ (by omega) id).trans Z.out;have X:Hid _:=L.kept0 G.out;have N:Hid _:=((P.kept.mono fE).trans E iL).trans G fE;have aV:¬w.heap.size+1=a.heap.size:=by omega
  have M:Hid (∀(B:World) (n:Int) (m:Nat->Prop) (b:Nat) (u:Ck) (tmps:Array Value),0<=n->n<=27->Cw B y bd S m {D with reads:=r+n} u->(∀j,m j->T j\/aD.heap.size<=j)->za (λj=>j=bd\/T j) w B->B.heap[w.heap.size+1]? =some (.cells #[.string ⟨#[]⟩,.int .i64 0,.bool false,.int .i64 0,.int .i64 0] 109 (0,0))->tmps.getD 6 undef=.int .i64 (b:Int)->tmps.getD 7 undef=.pointer (some ⟨w.heap.size+1,0,none⟩)->tmps.getD 8 undef=.bool O->
   bodyPost Tryz.prog Tryz.f79 (λak w'=>ak=.returned (.tuple #[.int .i64 (b:Int),.agg #[.string c,.int .i64 f,.bool d,.int .i64 e,.int .i64 g],.bool O])/\(∃(n:Int) (m:Nat->Prop),0<=n/\n<=27/\Cw w' y bd S m {D with reads:=r+n} u/\∀j,m j->T j\/w.heap.size<=j)/\za (λj=>j=bd\/T j) w w') .ret {tmps:=tmps,defers:=[]} (((((B.setCell ⟨w.heap.size+1,0,none⟩ (.string c)).setCell ⟨w.heap.size+1,1,none⟩ (.int .i64 f)).setCell ⟨w.heap.size+1,2,none⟩ (.bool d)).setCell ⟨w.heap.size+1,3,none⟩ (.int .i64 e)).setCell ⟨w.heap.size+1,4,none⟩ (.int .i64 g)).drew):=by
   intro B n m b u tmps a2 aq ax U ar i aH a0 aS;obtain⟨az,an⟩:=kF B (w.heap.size+1) 109 _ _ _ _ _ (.string c) (.int .i64 f) (.bool d) (.int .i64 e) (.int .i64 g) i;generalize (((((B.setCell ⟨w.heap.size+1,0,none⟩ (.string c)).setCell ⟨w.heap.size+1,1,none⟩ (.int .i64 f)).setCell ⟨w.heap.size+1,2,none⟩ (.bool d)).setCell ⟨w.heap.size+1,3,none⟩ (.int .i64 e)).setCell ⟨w.heap.size+1,4,none⟩ (.int .i64 g))=a7 at*;have al:=an.trans (za.drew (λ_=>False) a7) fE;refine bodyPost_ret (jb rfl _ _ _ _ _ _ _ a0 (show a7.drew.heap[w.heap.size+1]? =_ from az) Tryz.underlying109 rfl (by kernel_rfl)) rfl ⟨by rw [aH,aS],⟨n,m,a2,aq,ax.kept al (λj l ah=>by have:=aw.out j l;omega) (λj l ah=>?_),λj l=>(U j l).imp id (λh=>by omega)⟩,ar.trans al (λj l=>.inr (by omega))⟩;rcases U j l with h|h;.have:=F.out j h;omega
   .omega
  have ai:Hid (∀B:World,B.heap[w.heap.size+1]? =some (.cells #[.string ⟨#[]⟩,.int .i64 0,.bool false,.int .i64 0,.int .i64 0] 109 (0,0))->B.cell? ⟨w.heap.size+1,0,none⟩=some (.string ⟨#[]⟩)/\B.cell? ⟨w.heap.size+1,1,none⟩=some (.int .i64 0)/\B.cell? ⟨w.heap.size+1,2,none⟩=some (.bool false)/\B.cell? ⟨w.heap.size+1,3,none⟩=some (.int .i64 0)/\B.cell? ⟨w.heap.size+1,4,none⟩=some (.int .i64 0)/\∀aX,B.frozen? ⟨w.heap.size+1,aX,none⟩=false):=λB i=>⟨cR i rfl,cR i rfl,cR i rfl,cR i rfl,cR i rfl,λaX=>aa B _ aX _ _ i⟩;have aB:Hid (∀B:World,B.heap[a.heap.size]? =some (.cells #[.string c,.int .i64 f,.bool d,.int .i64 e,.int .i64 g] 109 (0,0))->B.cell? ⟨a.heap.size,0,none⟩=some (.string c)/\B.cell? ⟨a.heap.size,1,none⟩=some (.int .i64 f)/\B.cell? ⟨a.heap.size,2,none⟩=some (.bool d)/\B.cell? ⟨a.heap.size,3,none⟩=some (.int .i64 e)/\B.cell? ⟨a.heap.size,4,none⟩=some (.int .i64 g)):=λB i=>⟨cR i rfl,cR i rfl,cR i rfl,cR i rfl,cR i rfl⟩
 .obtain⟨ah,aR,aO,aL,aK⟩:=aB.out A R.out;obtain⟨aZ,aM,aP,aW,aJ,k⟩:=ai.out A x.out;have aI:=k 0;have aF:=k 1;have aY:=k 2;have aU:=k 3;have aG:=k 4;clear k;try go_wp2_with fail
  go_region_held3 (λw'=>w'.cell? ⟨a.heap.size,0,none⟩=some (.string c)/\w'.cell? ⟨a.heap.size,1,none⟩=some (.int .i64 f)/\w'.cell? ⟨a.heap.size,2,none⟩=some (.bool d)/\w'.cell? ⟨a.heap.size,3,none⟩=some (.int .i64 e)/\w'.cell? ⟨a.heap.size,4,none⟩=some (.int .i64 g)) (go_keep) (fail);go_wp2;exact M A af ag b u _ ao (by omega) (by rw [W.out];exact X) t N x (by rw [Y.out];rfl) rfl rfl
 .refine(K A ag (r+af) (by omega) (by omega) X).mono ?_;rintro ak B ⟨rfl,⟨aT,aA,aN,a1,Q,V⟩,z⟩;have ap:Hid (∀j,aA j->T j\/aD.heap.size<=j):=λj l=>(V j l).elim (t j) (λh=>.inr (by omega))
  have H:Hid (∀j,w.heap.size<=j->j<aD.heap.size\/j=a.heap.size->¬(j=bd\/ag j)):=λj l a6 ab=>by
   rcases ab with h|h;.omega
   .have bc:=L.chg.lt j h;rcases t j h with h|h;.have:=F.out j h;omega
    .omega
  have ay:Hid (B.heap[a.heap.size]? =_):=(z.block _ (by omega) (H _ (by omega) (.inr rfl))).trans R.out;have J:Hid (B.heap[w.heap.size+1]? =_):=(z.block _ (by omega) (H _ (by omega) (.inl (by omega)))).trans x.out
  have ad:Hid _:=N.trans z (λj l=>by
   rcases l with h|h;.exact .inl (.inl h)
   .exact(t j h).imp .inr (λh=>by omega))
  change Hid _ at Q;clear V z;obtain⟨ah,aR,aO,aL,aK⟩:=aB.out B ay.out;obtain⟨aZ,aM,aP,aW,aJ,k⟩:=ai.out B J.out;have aI:=k 0;have aF:=k 1;have aY:=k 2;have aU:=k 3;have aG:=k 4;clear k;go_wp2_with fail;go_region_held3 (λw'=>w'.cell? ⟨a.heap.size,0,none⟩=some (.string c)/\w'.cell? ⟨a.heap.size,1,none⟩=some (.int .i64 f)/\w'.cell? ⟨a.heap.size,2,none⟩=some (.bool d)/\w'.cell? ⟨a.heap.size,3,none⟩=some (.int .i64 e)/\w'.cell? ⟨a.heap.size,4,none⟩=some (.int .i64 g)) (go_keep) (fail);go_wp2;exact M B (af+aT) aA b u _ (by omega) (by omega) (by rw [<-a9];exact Q) ap ad J rfl rfl rfl
def Un(bc bd:Nat)(S:Nat->Prop)(D:Dk)(C1:Ck)(es:List En)(c at_:Nat)(s ok s2 ok2:Bool)(C3:Ck):Prop:=
 (s=false/\s2=false/\ok2=ok/\C3=C1)\/
  (s=true/\ok2=true/\∃es2 C2,Zl bc bd S D C1 es c es2 C2/\(∀x∈es2,x.Ok)/\es2.length<=6/\C2.ws.length<1000/\decide ((es2.length:Int)<3)=s2/\C3=C2.put at_ (zl (zc 4 es2)))
theorem vJ(w:World)(z bd:Nat)(S T:Nat->Prop)(D:Dk)(C:Ck)(h:Cw w z bd S T D C)(bJ:0<=D.reads)(cZ:D.reads<=4611686018427370000)(Q:Nat)(b8:Q<65536)(l:List En)(a4:∀e∈l,e.Ok)(bE:∀e∈l,e.mark=false/\e.size=0)(bg:l.length<=6)(bw:yL l)(bZ:C.look D Q=zl (zc 4 l))(p:Pl)(ce:Nat)(c0:ce<=1000)(v:List Value)(aN:∃(M:ByteArray) (R:Int) (N:Bool) (P U:Int),v=[.string M,.int .i64 R,.bool N,.int .i64 P,.int .i64 U])(s aJ:Bool)(au:Ck)(c:Nat)(B:zH l p=c)(bC:c<l.length)(aF:Uk z bd S T D C l[c].at_ p ce v s aJ au)(aM aG:Bool)(aL:Ck)(ap:Un z bd S D au l c Q s aJ aM aG aL):
 Calls Tryz.prog 141 #[.pointer (some ⟨z,0,none⟩),.int .i64 Q,.agg #[.string p.key,.int .i64 p.num]] w λci w'=>ci=.returned (.tuple #[.agg v.toArray,.bool aM,.bool aG])/\(∃(n:Int) (aA:Nat->Prop),0<=n/\n<=ce+4/\Cw w' z bd S aA {D with reads:=D.reads+n} aL/\∀j,aA j->T j\/w.heap.size<=j)/\za (λj=>j=bd\/T j) w w':=by
 have cC:Hid _:=h;have bI:Hid _:=B;have aD:Hid (Uk z bd S T D C l[c].at_ p ce v s aJ au):=aF;have aq:Hid (Un z bd S D au l c Q s aJ aM aG aL):=ap;have cU:bd<w.heap.size:=h.disk.lt bd h.disk.bdS;have W:Hid (∀j,T j->j<w.heap.size):=h.chg.lt;have ao:Hid (∀j,S j->j<w.heap.size):=h.disk.lt;obtain⟨M,R,N,P,U,rfl⟩:=aN;change Hid _ at a4 bE bw bZ;clear h B aF ap;have aH:Hid _:=Ul w p;go_enter Tryz.func141,Tryz.ntmps141;go_wp2_with fail;generalize ((w.alloc (.cells #[.string p.key,.int .i64 p.num] 107)).alloc (.cells #[.string ⟨#[]⟩,.int .i64 0,.bool false,.int .i64 0,.int .i64 0] 109))=cd at*;refine(yy cd z bd S T D C (cC.kept0 aH.kept) bJ (by omega) Q b8 4 l (.inl rfl) a4 (λ_=>bE) bg bZ).mono ?_;rintro r d ⟨a,i,rfl,⟨L,b1,bz,a7⟩,ad,J,K,az⟩;have b5:Hid (Cw d z bd S T {D with reads:=D.reads+L} C):=a7;have bv:Hid (za (λj=>j=bd) cd d):=ad;have bT:Hid (d.ownsRow 0 109 5 (.slice a l.length i) l.length (zj l)):=K;have cQ:=aH.size;have cv:=ad.size;have aj:Hid (d.heap[w.heap.size]? =_):=(ad.block _ (by omega) (by omega)).trans aH.pl;have bm:Hid (d.heap[w.heap.size+1]? =_):=(ad.block _ (by omega) (by omega)).trans aH.res;obtain⟨g,c1,rfl⟩:=J.base (by omega)
 obtain rfl:c1=0:=by
  rcases K.2 with⟨cD,_⟩|⟨c7,cm,cX,aN,_⟩;.cases cD
  .simp only [Value.slice.injEq,ij,Addr.mk.injEq] at aN;exact aN.1.2.1
 have cV:cd.heap.size<=g:=az g rfl;have cN:g<d.heap.size:=(K.lt g rfl).2;change Hid _ at J;clear a7 ad K az;have cq:d.cell? ⟨w.heap.size,0,none⟩=some (.string p.key):=cR aj.out rfl;have co:d.cell? ⟨w.heap.size,1,none⟩=some (.int .i64 p.num):=cR aj.out rfl;have cr:w.heap.size<d.heap.size:=by omega
 go_wp2_with fail;have aX:Hid (za (λ_=>False) d (d.alloc (.cells #[.int .u8 4,.slice (some ⟨g,0,none⟩) l.length i] 209))):=za.alloc _ _ _;have bB:Hid ((d.alloc (.cells #[.int .u8 4,.slice (some ⟨g,0,none⟩) l.length i] 209)).heap[d.heap.size]? =some (.cells #[.int .u8 4,.slice (some ⟨g,0,none⟩) l.length i] 209 (0,0))):=ac d _;have cY:(d.alloc (.cells #[.int .u8 4,.slice (some ⟨g,0,none⟩) l.length i] 209)).heap.size=d.heap.size+1:=by simp
 generalize (d.alloc (.cells #[.int .u8 4,.slice (some ⟨g,0,none⟩) l.length i] 209))=cf at*;refine(vy cf _ _ i l (J.kept aX nF) bw 4 p).mono ?_;rintro r m ⟨rfl,an⟩;rw [bI.out];have Z:Hid (za (λ_=>False) d m):=aX.trans an iL;have ck:=an.size;have aE:Hid (m.heap[d.heap.size]? =_):=(an.block _ (by omega) id).trans bB.out;have al:Hid (m.heap[w.heap.size]? =_):=(Z.block _ (by omega) id).trans aj.out;have bn:Hid (m.heap[w.heap.size+1]? =_):=(Z.block _ (by omega) id).trans bm.out;have bD:Hid (qe m (λb=>cd.heap.size<=b) (some ⟨g,0,none⟩) l):=J.kept Z nF;clear an cq co;obtain⟨-, -, -, -, bp, -, -⟩:=bD.cells c bC;simp only [eT] at bp;have a3:Hid (∀bi:World,Cw bi z bd S T {D with reads:=D.reads+L} C->_):=λbi bG=>aD.go bi L b1 bz bG;generalize l[c].at_=be at*;have cw:m.cell? ⟨w.heap.size,0,none⟩=some (.string p.key):=cR al.out rfl;have cE:m.cell? ⟨w.heap.size,1,none⟩=some (.int .i64 p.num):=cR al.out rfl;have cB:m.cell? ⟨d.heap.size,1,none⟩=some (.slice (some ⟨g,0,none⟩) l.length i):=cR aE.out rfl;have ca:Hid (m.cell? ⟨g,c*5+4,none⟩=some (.int .i64 (be:Int))):=bp;have cy:(c:Int)<(l.length:Int):=by omega
 have af:Hid (∀j,w.heap.size<=j->¬(j=bd\/T j)):=λj f B=>B.elim (λh=>by omega) (λh=>by have:=W.out j h;omega);have bj:Hid (Cw m.drew z bd S T {D with reads:=D.reads+L} C):=(b5.kept0 Z).kept0 (za.drew _ m);have bs:Hid (za (λj=>j=bd\/T j) w m):=((aH.kept.mono fE).trans bv (λ_ h=>.inl (.inl h))).trans Z fE;have bV:Hid (m.ownsRow 0 109 5 (.slice (some ⟨g,0,none⟩) l.length i) l.length (zj l)):=Z.owns bT nF;have cW:¬w.heap.size+1=d.heap.size:=by omega
 have cL:¬w.heap.size+1=g:=by omega
 have cF:¬d.heap.size=w.heap.size+1:=by omega
 go_wp2_with fail;go_region_held3 (λw'=>w'.cell? ⟨d.heap.size,1,none⟩=some (.slice (some ⟨g,0,none⟩) l.length i)/\w'.cell? ⟨g,c*5+4,none⟩=some (.int .i64 (be:Int))/\w'.cell? ⟨w.heap.size,0,none⟩=some (.string p.key)/\w'.cell? ⟨w.heap.size,1,none⟩=some (.int .i64 p.num)) (go_keep) ((go_at_call 141;refine(a3 _ (by exact bj)).mono ?_;rintro r q ⟨rfl,⟨ai,ab,cH,cx,aS,a2⟩,aW⟩;have bR:Hid (Cw q z bd S ab {D with reads:=D.reads+L+ai} au):=aS;have V:Hid (∀j,ab j->T j\/m.heap.size<=j):=a2;have A:Hid (za (λj=>j=bd\/T j) m q):=((za.drew (λ_=>False) m).mono fE).trans aW iL;have aC:Hid (q.heap[d.heap.size]? =some (.cells #[.int .u8 4,.slice (some ⟨g,0,none⟩) l.length i] 209 (0,0))):=(A.block _ (show d.heap.size<m.heap.size by omega) (af _ (by omega))).trans aE.out;have ay:Hid (q.heap[w.heap.size]? =some (.cells #[.string p.key,.int .i64 p.num] 107 (0,0))):=(A.block _ (show w.heap.size<m.heap.size by omega) (af _ (by omega))).trans al.out;have o:Hid (q.heap[w.heap.size+1]? =some (.cells #[.string ⟨#[]⟩,.int .i64 0,.bool false,.int .i64 0,.int .i64 0] 109 (0,0))):=(A.block _ (show w.heap.size+1<m.heap.size by omega) (af _ (by omega))).trans bn.out;have bW:q.cell? ⟨d.heap.size,1,none⟩=some (.slice (some ⟨g,0,none⟩) l.length i):=(cR aC.out rfl);have b2:q.cell? ⟨g,c*5+4,none⟩=some (.int .i64 (be:Int)):=(A.cell (a:=⟨g,c*5+4,none⟩) (show g<m.heap.size by omega) (af g (by omega))).trans ca.out;have bL:q.cell? ⟨w.heap.size,0,none⟩=some (.string p.key):=(cR ay.out rfl);have bX:q.cell? ⟨w.heap.size,1,none⟩=some (.int .i64 p.num):=(cR ay.out rfl);have cs:m.heap.size<=q.heap.size:=A.size;have cI:q.cell? ⟨w.heap.size+1,0,none⟩=some (.string ⟨#[]⟩):=(cR o.out rfl);have cA:q.cell? ⟨w.heap.size+1,1,none⟩=some (.int .i64 0):=(cR o.out rfl);have cp:q.cell? ⟨w.heap.size+1,2,none⟩=some (.bool false):=(cR o.out rfl);have ct:q.cell? ⟨w.heap.size+1,3,none⟩=some (.int .i64 0):=(cR o.out rfl);have cj:q.cell? ⟨w.heap.size+1,4,none⟩=some (.int .i64 0):=(cR o.out rfl);have bu:=aa q (w.heap.size+1) 0 _ _ o.out;have bt:=aa q (w.heap.size+1) 1 _ _ o.out;have cb:=aa q (w.heap.size+1) 2 _ _ o.out;have bH:=aa q (w.heap.size+1) 3 _ _ o.out;have bM:=aa q (w.heap.size+1) 4 _ _ o.out;clear aS a2 aW;dsimp only));obtain⟨t,Y⟩:=kF q (w.heap.size+1) 109 _ _ _ _ _ (.string M) (.int .i64 R) (.bool N) (.int .i64 P) (.int .i64 U) o.out;change Hid _ at t Y;clear cI cA cp ct cj bu bt cb bH bM cw cE cB bW bp b2 bL bX a3 aD;generalize (((((q.setCell ⟨w.heap.size+1,0,none⟩ (.string M)).setCell ⟨w.heap.size+1,1,none⟩ (.int .i64 R)).setCell ⟨w.heap.size+1,2,none⟩ (.bool N)).setCell ⟨w.heap.size+1,3,none⟩ (.int .i64 P)).setCell ⟨w.heap.size+1,4,none⟩ (.int .i64 U))=X at*;have cM:=Y.size
 have ar:Hid (∀j,S j\/ab j->j≠w.heap.size+1):=λj f ak=>by
  rcases f with h|h;.have:=ao.out j h;omega
  .rcases V j h with h|h;.have:=W.out j h;omega
   .omega
 have aR:Hid (Cw X z bd S ab {D with reads:=D.reads+L+ai} au):=bR.kept Y (λj f=>ar j (.inl f)) (λj f=>ar j (.inr f));have av:Hid (za (λj=>j=bd\/T j) w X):=(bs.trans A iL).trans Y (λj f=>.inr (by omega));have am:Hid (X.heap[d.heap.size]? =_):=(Y.block _ (by omega) (by omega)).trans aC.out;rcases aq.out with⟨rfl,rfl,rfl,rfl⟩|⟨rfl,rfl,y,bF,a1,ax,bS,bb,a8,aQ⟩
 .have cg:X.cell? ⟨w.heap.size+1,0,none⟩=some (.string M):=cR t.out rfl;have cK:X.cell? ⟨w.heap.size+1,1,none⟩=some (.int .i64 R):=cR t.out rfl;have cu:X.cell? ⟨w.heap.size+1,2,none⟩=some (.bool N):=cR t.out rfl;have cJ:X.cell? ⟨w.heap.size+1,3,none⟩=some (.int .i64 P):=cR t.out rfl;have cn:X.cell? ⟨w.heap.size+1,4,none⟩=some (.int .i64 U):=cR t.out rfl;have bu:=aa X (w.heap.size+1) 0 _ _ t.out;have bt:=aa X (w.heap.size+1) 1 _ _ t.out;have cb:=aa X (w.heap.size+1) 2 _ _ t.out;have bH:=aa X (w.heap.size+1) 3 _ _ t.out;have bM:=aa X (w.heap.size+1) 4 _ _ t.out;go_wp2;obtain⟨b7,G⟩:=kF X (w.heap.size+1) 109 _ _ _ _ _ (.string M) (.int .i64 R) (.bool N) (.int .i64 P) (.int .i64 U) t.out;refine bodyPost_ret (yW rfl _ _ _ _ _ _ _ rfl b7 Tryz.underlying109 rfl (by kernel_rfl)) rfl ⟨rfl,⟨L+ai,ab,by omega,by omega,?_,λj f=>(V j f).imp id (λh=>by omega)⟩,av.trans G (λj f=>.inr (by omega))⟩;have:=aR.kept G (λj f=>ar j (.inl f)) (λj f=>ar j (.inr f));rw [a9] at this;exact this
 .have ba:Hid _:=ax;have bQ:Hid _:=af.out g (by omega);have bP:Hid _:=Y.owns (A.owns bV (λj f B=>by simp [Value.ownBlock] at f;subst f;exact bQ B)) (λj f ak=>by simp [Value.ownBlock] at f;omega)
  have bN:Hid (Calls Tryz.prog 180 #[.agg #[.int .u8 4,.slice (some ⟨g,0,none⟩) l.length i],.pointer (some ⟨z,0,none⟩),.int .i64 c] X λci w'=>ci=.returned (.agg #[.int .u8 4,.slice (some ⟨g,0,none⟩) y.length i])/\w'.ownsRow 0 109 5 (.slice (some ⟨g,0,none⟩) y.length i) y.length (zj y)/\(∃(n:Int) (aA:Nat->Prop),0<=n/\n<=3/\Cw w' z bd S aA {D with reads:=D.reads+L+ai+n} bF/\∀j,aA j->ab j\/X.heap.size<=j)/\za (λj=>j=bd\/ab j\/j=g) X w'):=
   a1.go X ab (D.reads+L+ai) g i (by omega) (by omega) aR bP (λcz=>by have:=ao.out g cz;omega) (λch=>by
    rcases V g ch with h|h;.have:=W.out g h;omega
    .omega)
  change Hid _ at a8 aQ;clear ax a1 aq;have bk:X.cell? ⟨d.heap.size,0,none⟩=some (.int .u8 4):=cR am.out rfl;have p1:X.cell? ⟨d.heap.size,1,none⟩=some (.slice (some ⟨g,0,none⟩) l.length i):=cR am.out rfl;go_wp2_with fail;refine bN.mono ?_;rintro r H ⟨rfl,a6,⟨bA,bc,cG,cl,aU,aV⟩,ae⟩;have aI:Hid (∀j,bc j->T j\/m.heap.size<=j):=λj f=>(aV j f).elim (V j) (λh=>.inr (by omega))
  have aw:Hid (∀j,w.heap.size<=j->j<m.heap.size->¬ab j):=λj aK h2 B=>by
   rcases V j B with h|h;.have:=W.out j h;omega
   .omega
  have ah:Hid (∀j,w.heap.size<=j->j<m.heap.size->¬bc j):=λj aK h2 B=>by
   rcases aI j B with h|h;.have:=W.out j h;omega
   .omega
  have O:Hid (H.heap[d.heap.size]? =_):=(ae.block _ (by omega) (λB=>by
   rcases B with h|h|h;.omega
   .exact aw _ (by omega) (by omega) h
   .omega)).trans am.out
  have bq:Hid (H.heap[w.heap.size+1]? =_):=(ae.block _ (by omega) (λB=>by
   rcases B with h|h|h;.omega
   .exact aw _ (by omega) (by omega) h
   .omega)).trans t.out
  have bh:Hid _:=av.trans ae (λj f=>by
   rcases f with h|h|h;.exact .inl (.inl h)
   .rcases V j h with h|h;.exact .inl (.inr h)
    .exact .inr (by omega)
   .exact .inr (by omega))
  have cS:=ae.size;change Hid _ at a6 aU;clear aV ae bk p1;have bk:H.cell? ⟨d.heap.size,0,none⟩=some (.int .u8 4):=cR O.out rfl;have p1:H.cell? ⟨d.heap.size,1,none⟩=some (.slice (some ⟨g,0,none⟩) l.length i):=cR O.out rfl;have b6:=aa H d.heap.size 0 _ _ O.out;have b3:=aa H d.heap.size 1 _ _ O.out;go_wp2_with fail;have aY:=heap_setCell_same H d.heap.size 0 _ _ (.int .u8 4) O.out;have bx:Hid (((H.setCell ⟨d.heap.size,0,none⟩ (.int .u8 4)).setCell ⟨d.heap.size,1,none⟩ (.slice (some ⟨g,0,none⟩) y.length i)).heap[d.heap.size]? =some (.cells #[.int .u8 4,.slice (some ⟨g,0,none⟩) y.length i] 209 (0,0))):=heap_setCell_same _ d.heap.size 1 _ _ _ aY;have ag:Hid (za (λj=>j=d.heap.size) H ((H.setCell ⟨d.heap.size,0,none⟩ (.int .u8 4)).setCell ⟨d.heap.size,1,none⟩ (.slice (some ⟨g,0,none⟩) y.length i))):=(za.setCell (S:=λj=>j=d.heap.size) H ⟨d.heap.size,0,none⟩ _ rfl).trans (za.setCell (S:=λj=>j=d.heap.size) _ ⟨d.heap.size,1,none⟩ _ rfl) iL;generalize ((H.setCell ⟨d.heap.size,0,none⟩ (.int .u8 4)).setCell ⟨d.heap.size,1,none⟩ (.slice (some ⟨g,0,none⟩) y.length i))=cT at*;clear bk p1 b6 b3 aY;have cO:=ag.size;have bf:Hid (cT.heap[w.heap.size+1]? =_):=(ag.block _ (by omega) (by omega)).trans bq.out;have bK:Hid _:=ag.owns a6 (λj f ak=>by simp [Value.ownBlock] at f;omega);have cc:Hid _:=qe.of_own bK (λj f=>by simp [Value.ownBlock] at f;exact f.symm) (by omega);have bY:Hid _:=aU.kept ag (λj f ak=>by have:=ao.out j f;omega) (λj f ak=>ah d.heap.size (by omega) (by omega) (by rw [<-show j=d.heap.size from ak];exact f));refine(vf cT z bd S bc _ bF bY _ _ i 4 (.inl rfl) y cc ba bS Q bb _ rfl).mono ?_;rintro r F ⟨rfl,⟨bo,aP,aZ⟩,G⟩;have bU:Hid (Cw F z bd S bo {D with reads:=D.reads+L+ai+bA} aL):=by rw [aQ.out];exact aP
  have a0:Hid (∀j,bo j->T j\/m.heap.size<=j):=λj f=>(aZ j f).elim (aI j) (λh=>.inr (by omega));have aB:Hid (F.heap[d.heap.size]? =_):=(G.block _ (by omega) (ah _ (by omega) (by omega))).trans bx.out;have E:Hid (F.heap[w.heap.size+1]? =some (.cells #[.string M,.int .i64 R,.bool N,.int .i64 P,.int .i64 U] 109 (0,0))):=(G.block _ (by omega) (ah _ (by omega) (by omega))).trans bf.out;have br:Hid _:=(bh.trans ag (λj f=>.inr (by omega))).trans G (λj f=>(aI j f).imp .inr (λh=>by omega));have cP:=G.size;clear aP aZ G
  have bl:Hid (∀u,Calls Tryz.prog 182 #[.agg #[.int .u8 4,.slice (some ⟨g,0,none⟩) y.length i]] u λe w'=>e=.returned (.bool aM)/\za (λ_=>False) u w'):=λu=>by have:=Zj u 4 (.inl rfl) (some ⟨g,0,none⟩) y.length i;rw [a8.out] at this;exact this
  have bO:Hid (∀u,za (λ_=>False) F u->u.heap[w.heap.size+1]? =some (.cells #[.string M,.int .i64 R,.bool N,.int .i64 P,.int .i64 U] 109 (0,0))):=λu k=>(k.block _ (by omega) id).trans E.out;have cg:F.cell? ⟨w.heap.size+1,0,none⟩=some (.string M):=cR E.out rfl;have cK:F.cell? ⟨w.heap.size+1,1,none⟩=some (.int .i64 R):=cR E.out rfl;have cu:F.cell? ⟨w.heap.size+1,2,none⟩=some (.bool N):=cR E.out rfl;have cJ:F.cell? ⟨w.heap.size+1,3,none⟩=some (.int .i64 P):=cR E.out rfl;have cn:F.cell? ⟨w.heap.size+1,4,none⟩=some (.int .i64 U):=cR E.out rfl;have c4:F.cell? ⟨d.heap.size,0,none⟩=some (.int .u8 4):=cR aB.out rfl;have c6:F.cell? ⟨d.heap.size,1,none⟩=some (.slice (some ⟨g,0,none⟩) y.length i):=cR aB.out rfl;go_wp2_with fail
  go_region_law (go_simp;go_at_call 182;refine(bl F.drew).mono ?_;rintro r I ⟨rfl,a5⟩;have aO:Hid _:=(za.drew (λ_=>False) F).trans a5 iL;have x:=bO.out I aO.out;have u0:I.cell? ⟨w.heap.size+1,0,none⟩=some (.string M):=(cR x rfl);have u1:I.cell? ⟨w.heap.size+1,1,none⟩=some (.int .i64 R):=(cR x rfl);have u2:I.cell? ⟨w.heap.size+1,2,none⟩=some (.bool N):=(cR x rfl);have u3:I.cell? ⟨w.heap.size+1,3,none⟩=some (.int .i64 P):=(cR x rfl);have u4:I.cell? ⟨w.heap.size+1,4,none⟩=some (.int .i64 U):=(cR x rfl);have c5:=aa I (w.heap.size+1) 0 _ _ x;have c8:=aa I (w.heap.size+1) 1 _ _ x;have c2:=aa I (w.heap.size+1) 2 _ _ x;have c3:=aa I (w.heap.size+1) 3 _ _ x;have b4:=aa I (w.heap.size+1) 4 _ _ x;change Hid _ at x;clear a5;dsimp only)
  all_goals
   go_wp2;obtain⟨b9,b0⟩:=kF I (w.heap.size+1) 109 _ _ _ _ _ (.string M) (.int .i64 R) (.bool N) (.int .i64 P) (.int .i64 U) x.out;have aT:=(aO.mono (S':=λj=>j=w.heap.size+1) fE).trans b0 iL;refine bodyPost_ret (yW rfl _ _ _ _ _ _ _ rfl b9 Tryz.underlying109 rfl (by kernel_rfl)) rfl ⟨rfl,⟨L+ai+bA,bo,by omega,by omega,?_,λj f=>(a0 j f).imp id (λh=>by omega)⟩,br.trans aT (λj f=>.inr (by omega))⟩
   have:=bU.kept aT (λj f ak=>by have:=ao.out j f;omega) (λj f ak=>by
    rcases a0 j f with aK|aK;.have:=W.out j aK;omega
    .omega)
   simp only [a9] at this ⊢;exact this
end prog
namespace prog
open ref
variable {b h:Nat}{p q p1 p2:Pl}
def Tr.join:{h:Nat}->Tr h->Tr h->Tr h
 |0,u,v=>(u.1,u.2++v.2)
 |_+1,u,v=>(u.1,u.2++v.2)
def Tr.cutL(m:Nat):{h:Nat}->Tr h->Tr h
 |0,u=>(u.1,u.2.take m)
 |_+1,u=>(u.1,u.2.take m)
def Tr.cutR(m b:Nat):{h:Nat}->Tr h->Tr h
 |0,u=>(b,u.2.drop m)
 |_+1,u=>(b,u.2.drop m)
theorem Uo:∀{h:Nat} (u v:Tr h),(u.join v).blk=u.blk
 |0,_,_=>rfl
 |_+1,_,_=>rfl
theorem xM:∀{h:Nat} (u v:Tr h),(u.join v).items=u.items++v.items
 |0,_,_=>rfl
 |_+1,u,v=>eh
theorem kh:∀{h:Nat} (u v:Tr h),(u.join v).ents=u.ents++v.ents
 |0,_,_=>rfl
 |h+1,u,v=>zA u.2 v.2
theorem vj:∀{h:Nat} (u v:Tr h),((u.join v).blocks++[v.blk]).Perm (u.blocks++v.blocks)
 |0,u,v=>eR _
 |h+1,u,v=>by show (u.1::zE (u.2++v.2)++[v.1]).Perm (u.1::zE u.2++v.1::zE v.2);rw [qo];refine List.Perm.trans ?_ List.perm_middle.symm;exact eM (l₂:=[v.1])
theorem JD(m b:Nat):∀{h:Nat} (u:Tr h),(u.cutL m).blk=u.blk/\(u.cutR m b).blk=b
 |0,_=>⟨rfl,rfl⟩
 |_+1,_=>⟨rfl,rfl⟩
theorem Zm(m b:Nat):∀{h:Nat} (u:Tr h),(u.cutL m).items=u.items.take m/\(u.cutR m b).items=u.items.drop m
 |0,_=>⟨rfl,rfl⟩
 |_+1,u=>⟨iP,ms⟩
theorem Up(m b:Nat):∀{h:Nat} (u:Tr h),(u.cutL m).ents++(u.cutR m b).ents=u.ents
 |0,u=>aE m u.2
 |h+1,u=>by show zI (u.2.take m)++zI (u.2.drop m)=zI u.2;rw [<-zA,aE]
theorem XW(m b:Nat):∀{h:Nat} (u:Tr h),((u.cutL m).blocks++(u.cutR m b).blocks).Perm (u.blocks++[b])
 |0,u=>eR _
 |h+1,u=>by show (u.1::zE (u.2.take m)++b::zE (u.2.drop m)).Perm (u.1::zE u.2++[b]);refine List.perm_middle.trans ?_;rw [aT,<-qo,aE];exact eM (l₁:=[b])
theorem Zn:∀{h:Nat} {u v:Tr h} {p:Pl},u.Good->v.Good->v.First p->(∀e∈u.ents,e.pl.lt p=true)->(u.join v).Good
 |0,u,v,p,gu,gv,_,_=>⟨gu.1,λe b=>(ah.1 b).elim (gu.2 e) (gv.2 e)⟩
 |h+1,u,v,p,gu,gv,⟨v0,r,hv⟩,hlt=>by
  have f:=gu.kids;have g:=gv.kids
  have j:∀a∈u.2,a.1.lt p=true:=λa d=>by obtain⟨e,b⟩:=(f.good a d).1.some_ent (by have:=gu.full a d;omega);obtain⟨A,B,i⟩:=iX d;obtain⟨q,t⟩:=a;have:=(f.seps A q t B i).2.1 e (by rw [zr];exact af _ b);exact Pl.lt_of_not this (hlt e (vz d b))
  have l:Kids (u.2++v.2):=by rw [hv] at g ⊢;exact f.join g hlt j
  exact l.node (λc k=>(ah.1 k).elim (gu.full c) (gv.full c)) gu.1
theorem XX:∀{h:Nat} {u v:Tr h} {p:Pl},u.First p->(u.join v).First p
 |0,_,_,_,_=>eI
 |h+1,u,v,p,⟨u0,r,hu⟩=>⟨u0,r++v.2,by show u.2++v.2=_;rw [hu];rfl⟩
theorem Uq(m b:Nat)(f:b<65536):∀{h:Nat} {u:Tr h},u.Good->(u.cutL m).Good/\(u.cutR m b).Good
 |0,u,g=>⟨⟨g.1,λe d=>g.2 e (aP d)⟩,⟨f,λe d=>g.2 e (eK d)⟩⟩
 |h+1,u,g=>by
  have k:Kids (u.2.take m++u.2.drop m):=by rw [aE];exact g.kids
  exact⟨k.left.node (λc a=>g.full c (aP a)) g.1,k.right.node (λc a=>g.full c (eK a)) f⟩
theorem KI{m:Nat}(a:1<=m):∀{h:Nat} {u:Tr h} {p:Pl},u.First p->(u.cutL m).First p
 |0,_,_,_=>eI
 |h+1,u,p,⟨u0,r,hu⟩=>⟨u0,r.take (m-1),by
  show u.2.take m=_
  rw [hu,show m=(m-1)+1 from by omega,iz];rfl⟩
theorem Ur{m:Nat}(d:En):∀{h:Nat} {u:Tr h},u.Good->yL u.ents->m<u.items.length->(u.cutR m b).First (u.items.getD m d).pl/\(u.items.getD m d).pl.Ok/\(∀f∈(u.cutL m).ents,f.pl.lt (u.items.getD m d).pl=true)/\(∀f∈(u.cutR m b).ents,¬f.pl.lt (u.items.getD m d).pl=true)
 |0,u,g,hs,hm=>by
  have c:m<u.2.length:=hm;have i:u.items.getD m d=u.2[m]:=by show u.2.getD m d=_;rw [aA,aH c];rfl
  have e:u.2.drop m=u.2[m]::u.2.drop (m+1):=aI c;have j:yL (u.2.take m++u.2[m]::u.2.drop (m+1)):=by rw [<-e,aE];exact hs
  have k:=aX.1 j;rw [i];refine⟨eI,(g.2 _ (ai c)).pl,λf a=>k.2.2 f a _ (al ..),λf a=>?_⟩;have a:f∈u.2.drop m:=a;rw [e] at a;rcases ar.1 a with rfl|a;.exact Pl.irrefl _
  .exact Pl.asymm ((aL.1 k.2.1).1 f a)
 |h+1,u,g,hs,hm=>by
  have c:m<u.2.length:=by rw [yI] at hm;exact hm
  have i:(u.items.getD m d).pl=u.2[m].1:=by rw [aA,aH hm];simp [Tr.items]
  have e:=aI c;have l:Kids (u.2.take m++(u.2[m].1,u.2[m].2)::u.2.drop (m+1)):=by rw [<-e,aE];exact g.kids
  obtain⟨p,s,o,n,t,q,r⟩:=l.mid;rw [i];refine⟨⟨_,_,e⟩,(l.right.good _ (al ..)).2.2,o,λf a=>n f ?_⟩;rw [<-e];exact a
structure bD {h:Nat} (t:Tr h) (p:Pl) (t':Tr h):Prop where
 blk:t'.blk=t.blk
 good:t'.Good
 lo:t.items.length<=t'.items.length+1
 hi:t'.items.length<=6
 ents:t'.ents=qR p t.ents
 first:∀q,t.First q->t'.First q
theorem yL.erase{l:List En}(h:yL l)(p:Pl)(b:zt l p<l.length)(a:l[zt l p].pl=p):l.eraseIdx (zt l p)=qR p l:=by
 rw [lr];exact(h.find p).1 b a
theorem KJ{a:List En}(g:Tr.Good (h:=0) (b,a))(d:yL a)(i:a.length<=6)(c:zt a p<a.length)(f:a[zt a p].pl=p):bD (h:=0) (b,a) p (b,qR p a):=by
 have j:(qR p a).length+1=a.length:=by rw [<-d.erase p c f,iC c];omega
 refine⟨rfl,⟨g.1,λk e=>g.2 k (dK.1 e).1⟩,?_,?_,rfl,λ_ _=>eI⟩;.show a.length<=(qR p a).length+1;omega
 .show (qR p a).length<=6;omega
theorem Kids.unroute{A B:List (Pl×Tr h)}{tc:Tr h}(k:Kids (A++(q,tc)::B))(g:A≠[]->¬p.lt q=true)(i:∀b∈B,p.lt b.1=true):
 (∀d∈zI A,d.pl≠p)/\(∀d∈zI B,d.pl≠p):=by
 obtain⟨o,t,n,s,u,r,j⟩:=k.mid;refine⟨λd a e=>?_,λd a e=>?_⟩
 .have l:A≠[]:=λm=>by rw [m] at a;simp [zI] at a
  exact g l (e▸n d a)
 .obtain⟨c,f,a⟩:=VX a;exact j c f d a (e▸i c f)
theorem vK{A B:List (Pl×Tr h)}{tc tc':Tr h}(d:Kids (A++(q,tc)::B))(j:A≠[]->¬p.lt q=true)(l:∀b∈B,p.lt b.1=true)(k:bD tc p tc'):
 Kids (A++(q,tc')::B)/\zI (A++(q,tc')::B)=qR p (zI (A++(q,tc)::B)):=by
 obtain⟨o,s,t,m,n,i,r⟩:=d.mid;have e:∀c∈tc'.ents,c∈tc.ents:=λc a=>by rw [k.ents] at a;exact(dK.1 a).1
 refine⟨d.swap k.good k.hi (k.first _ n) (λc a=>m c (by rw [zr];exact af _ (e c a))) (λb f c a=>i b f c (av _ (e c a))),?_⟩;obtain⟨g,h2⟩:=d.unroute j l;rw [zA,zr,zA,zr,jE,jE,jf g,jf h2,k.ents]
theorem YA{A B:List (Pl×Tr h)}{tc tc':Tr h}(g:Tr.Good (h:=h+1) (b,A++(q,tc)::B))(j:(A++(q,tc)::B).length<=6)(i:A≠[]->¬p.lt q=true)(m:∀b∈B,p.lt b.1=true)(k:bD tc p tc')(l:3<=tc'.items.length):
 bD (h:=h+1) (b,A++(q,tc)::B) p (b,A++(q,tc')::B):=by
 obtain⟨f,h2⟩:=vK g.kids i m k;have d:=g.full;simp only at d;refine⟨rfl,f.node (λc a=>?_) g.1,?_,?_,h2,λp e=>jg e⟩
 .rcases ah.1 a with a|a;.exact d c (af _ a)
  .rcases ar.1 a with rfl|a;.exact l
   .exact d c (by simp [a])
 .rw [zy,zy];simp
 .rw [zy];simpa using j
theorem Kids.less{X g:List (Pl×Tr h)}{u v:Tr h}(k:Kids (X++(p1,u)::(p2,v)::g)):Kids (X++(p1,u)::g):=by
 obtain⟨j,n,p,m,o,l,q⟩:=k.mid;have f:=k.right;have d:=f.good (p1,u) (al ..);have i:Kids g:=Kids.right (A:=[(p1,u),(p2,v)]) f;refine k.left.join (i.cons d.1 d.2.1 d.2.2 o (λe c=>m e (by rw [zr];exact af _ c)) (λb a=>n b (am _ a)) (λb a e c=>l b (am _ a) e (av _ c))) p j
theorem Kids.pair{X g:List (Pl×Tr h)}{u v:Tr h}(k:Kids (X++(p1,u)::(p2,v)::g))(d:yL (zI (X++(p1,u)::(p2,v)::g))):
 (u.join v).Good/\(u.join v).First p1/\yL (u.join v).ents/\(∀e∈(u.join v).ents,¬e.pl.lt p1=true)/\(∀b∈g,∀e∈(u.join v).ents,e.pl.lt b.1=true):=by
 obtain⟨s,z,A,o,q,m,w⟩:=k.mid;have k2:Kids ((X++[(p1,u)])++(p2,v)::g):=by rw [ak];exact k
 obtain⟨x,r,i,y,j,l,t⟩:=k2.mid;have p:=k.good (p1,u) (by simp);have n:=k.good (p2,v) (by simp);have f:∀e∈u.ents,e.pl.lt p2=true:=λe a=>i e (by rw [zA];exact av _ (by rw [zr];exact af _ a));refine⟨Zn p.1 n.1 j f,XX q,?_,λe a=>?_,λb c e a=>?_⟩
 .rw [kh];rw [zA,zr,zr,<-ak u.ents] at d;exact(aX.1 (aX.1 d).2.1).1
 .rw [kh] at a;refine o e ?_;rw [zr,zr,<-ak];exact af _ a
 .rw [kh] at a;rcases ah.1 a with a|a;.exact m b (am _ c) e (av _ a)
  .exact l b c e (av _ a)
theorem Zo{b':Nat}{A B X d Y':List (Pl×Tr h)}{tc tc' u u':Tr h}(e:A++(q,tc')::B=X++(p1,u)::d)(c:Tr.First (h:=h+1) (b,A++(q,tc)::B) p):Tr.First (h:=h+1) (b',X++(p1,u')::Y') p:=by
 have a:Tr.First (h:=h+1) (b,A++(q,tc')::B) p:=jg c;rw [e] at a;exact jg a
structure KL {h:Nat} (A B:List (Pl×Tr h)) (q:Pl) (tc':Tr h) (X Y:List (Pl×Tr h)) (p1 p2:Pl) (u v:Tr h):Prop where
 eq:A++(q,tc')::B=X++(p1,u)::(p2,v)::Y
 at_:max A.length 1=X.length+1
 out:∀c,c∈X\/c∈Y->c∈A\/c∈B
 two:((p1,u)∈A/\(p2,v)=(q,tc'))\/((p2,v)∈B/\(p1,u)=(q,tc'))
theorem U9(A B:List (Pl×Tr h))(q:Pl)(tc':Tr h)(h2:2<=(A++(q,tc')::B).length):∃X d p1 p2 u v,KL A B q tc' X d p1 p2 u v:=by
 rcases List.eq_nil_or_concat A with rfl|⟨X,⟨p1,u⟩,rfl⟩
 .cases B with
  |nil=>simp at h2
  |cons b B=>exact⟨[],B,q,b.1,tc',b.2,rfl,by simp,λc a=>.inr (by rcases a with a|a;cases a;exact am _ a),.inr ⟨al ..,rfl⟩⟩
 .refine⟨X,B,p1,q,u,tc',by simp,by simp,λc a=>a.imp (λh=>by simp [h]) id,.inl ⟨by simp,rfl⟩⟩
theorem Us{A B X l:List (Pl×Tr h)}{tc tc' u v:Tr h}(g:Tr.Good (h:=h+1) (b,A++(q,tc)::B))(t:(A++(q,tc)::B).length<=6)(o:yL (zI (A++(q,tc)::B)))(r:A≠[]->¬p.lt q=true)(w:∀b∈B,p.lt b.1=true)(k:bD tc p tc')
 (P:KL A B q tc' X l p1 p2 u v) (E:(u.items++v.items).length<=6):bD (h:=h+1) (b,A++(q,tc)::B) p (b,X++(p1,u.join v)::l):=by
 obtain⟨i,h2⟩:=vK g.kids r w k;have f:yL (zI (A++(q,tc')::B)):=by rw [h2];exact o.del
 have d:=g.full;simp only at d;have e:(A++(q,tc)::B).length=(X++(p1,u)::(p2,v)::l).length:=by rw [<-P.eq];simp
 have m:=λp n=>Zo (b':=b) (u':=u.join v) (Y':=l) (p:=p) (b:=b) (tc:=tc) P.eq n;rw [P.eq] at i h2 f;obtain⟨s,y,F,D,x⟩:=i.pair f
 have z:3<=(u.items++v.items).length:=by
  rw [ag];rcases P.two with⟨j,_⟩|⟨j,_⟩;.have:=d _ (af _ j);simp only at this;omega
  .have:=d (p2,v) (by simp [j]);simp only at this;omega
 have C:=i.less.swap s (by rw [xM];exact E) y D x;refine⟨rfl,C.node (λc a=>?_) g.1,?_,?_,?_,m⟩
 .rcases ah.1 a with a|a
  .rcases P.out c (.inl a) with a|a;.exact d c (af _ a)
   .exact d c (by simp [a])
  .rcases ar.1 a with rfl|a
   .show 3<=(u.join v).items.length;rw [xM];exact z
   .rcases P.out c (.inr a) with a|a;.exact d c (af _ a)
    .exact d c (by simp [a])
 .rw [zy,zy,e];simp;omega
 .rw [zy];simp at e t ⊢;omega
 .show zI (X++(p1,u.join v)::l)=qR p (zI (A++(q,tc)::B));rw [<-h2,zA,zr,zA,zr,zr,kh,ak]
theorem Ut{A B X s:List (Pl×Tr h)}{tc tc' u v:Tr h}(g:Tr.Good (h:=h+1) (b,A++(q,tc)::B))(Z:(A++(q,tc)::B).length<=6)(K:yL (zI (A++(q,tc)::B)))(W:A≠[]->¬p.lt q=true)(T:∀b∈B,p.lt b.1=true)(k:bD tc p tc')
 (P:KL A B q tc' X s p1 p2 u v) (Q:6<(u.items++v.items).length) (d:En) (m:Nat) (U:m=(u.items++v.items).length/2):bD (h:=h+1) (b,A++(q,tc)::B) p (b,X++(p1,(u.join v).cutL m)::(((u.items++v.items).getD m d).pl,(u.join v).cutR m v.blk)::s):=by
 obtain⟨l,h2⟩:=vK g.kids W T k;have o:yL (zI (A++(q,tc')::B)):=by rw [h2];exact K.del
 have f:=g.full;simp only at f;have j:(A++(q,tc)::B).length=(X++(p1,u)::(p2,v)::s).length:=by rw [<-P.eq];simp
 rw [<-xM] at U Q ⊢;have w:=λp V=>Zo (b':=b) (u':=(u.join v).cutL m) (Y':=(((u.join v).items.getD m d).pl,(u.join v).cutR m v.blk)::s) (p:=p) (b:=b) (tc:=tc) P.eq V;rw [P.eq] at l h2 o;obtain⟨E,M,ac,I,H⟩:=l.pair o;have O:=(l.good (p1,u) (by simp)).2.1;have G:=l.good (p2,v) (by simp);have ad:(u.join v).items.length<=12:=by rw [xM,ag];simp only at O G;omega
 obtain⟨J,y⟩:=Uq m v.blk G.1.blk E;obtain⟨L,ab,C,x⟩:=Ur (m:=m) (b:=v.blk) d E ac (by omega);obtain⟨aa,Y⟩:=Zm m v.blk (u.join v);have n:=Up m v.blk (u.join v);have ae:((u.join v).cutL m).items.length=m:=by rw [aa,aC];omega
 have ai:((u.join v).cutR m v.blk).items.length=(u.join v).items.length-m:=by rw [Y,aS]
 obtain⟨R,t⟩:=J.some_ent (by omega);obtain⟨S,z⟩:=y.some_ent (by omega);have F:∀e∈((u.join v).cutL m).ents,e∈(u.join v).ents:=λe i=>by rw [<-n];exact af _ i
 have D:∀e∈((u.join v).cutR m v.blk).ents,e∈(u.join v).ents:=λe i=>by rw [<-n];exact av _ i
 have N:=l.less.parted J y (by omega) (by omega) ab (KI (by omega) M) L (Pl.lt_of_not (I R (F R t)) (C R t)) C x (λe i=>I e (F e i)) (λb r e i=>H b r e (D e i)) (λb r=>Pl.lt_of_not (x S z) (H b r S (D S z)));refine⟨rfl,N.node (λc a=>?_) g.1,?_,?_,?_,w⟩
 .rcases ah.1 a with a|a
  .rcases P.out c (.inl a) with a|a;.exact f c (af _ a)
   .exact f c (by simp [a])
  .rcases ar.1 a with rfl|a;.show 3<=((u.join v).cutL m).items.length;omega
   .rcases ar.1 a with rfl|a;.show 3<=((u.join v).cutR m v.blk).items.length;omega
    .rcases P.out c (.inr a) with a|a;.exact f c (af _ a)
     .exact f c (by simp [a])
 .rw [zy,zy,j];simp
 .rw [zy];simp at j Z ⊢;omega
 .show zI (X++(p1,(u.join v).cutL m)::(((u.join v).items.getD m d).pl,(u.join v).cutR m v.blk)::s)=qR p (zI (A++(q,tc)::B));rw [<-h2,zA,zr,zr,zA,zr,zr,<-ak (Tr.ents _),n,kh,ak]
end prog
namespace prog
open Go.RowKit disk ref
variable {D:Dk}{C:Ck}{m:List UInt8}
theorem Zp(C:Ck)(D:Dk)(i:Int):C.look D i=match C.ws.find? (λp=>decide ((p.1:Int)=i)) with
 |some p=>p.2
 |none=>D.look i:=by
 cases h:yd C.ws i with
 |none=>
  rw [j8 h];unfold yd at h;rw [im] at h;rw [lz.2 (λg e=>by rw [h g e];simp)]
 |some k=>
  obtain⟨d,c,h2⟩:=xB (D:=D) h;unfold yd at h;rw [eQ] at h;obtain⟨_,b,a⟩:=h;have:C.ws.find? (λp=>decide ((p.1:Int)=i))=some C.ws[k]:=List.find?_eq_some_iff_getElem.2 ⟨b,k,d,rfl,λj f=>by simpa using a j f⟩;rw [this,c]
theorem YB(C:Ck)(D:Dk)(i j:Int)(h:j≠i):Ck.look {C with ws:=fM C.ws i} D j=C.look D j:=by
 rw [Zp,Zp];show (match (fM C.ws i).find? _ with|some p=>p.2|none=>D.look j)=_;unfold fM;rw [List.find?_filter]
 have e:(λa:Nat×List Value=>decide ((!decide ((a.1:Int)=i))=true/\decide ((a.1:Int)=j)=true))=λa=>decide ((a.1:Int)=j):=by
  funext a;by_cases b:(a.1:Int)=j
  .have h2:¬(a.1:Int)=i:=by omega
   simp [b,h]
  .simp [b]
 rw [e]
theorem fh(C:Ck)(D:Dk)(m:List UInt8)(i j:Nat)(h2:j≠2)(a:j≠i+21):(C.free m i).look D (j:Nat)=C.look D (j:Nat):=by
 unfold Ck.free;rw [YB _ _ _ _ (by omega),zZ _ _ _ _ _ (by omega)]
theorem Uu(C:Ck)(D:Dk)(m:List UInt8)(i:Nat):(C.free m i).look D 2=zl (zR (jN m i)):=by
 unfold Ck.free;rw [YB _ _ _ _ (by omega)];exact qn C D 2 _
theorem fi(C:Ck)(m:List UInt8)(i:Nat):List.Sublist (C.free m i).keys (C.put 2 (zl (zR (jN m i)))).keys:=by
 unfold Ck.free Ck.keys;exact List.Sublist.map _ List.filter_sublist
theorem bE(C:Ck)(m:List UInt8)(i:Nat):(C.free m i).ws.length<=C.ws.length+1:=by
 rw [<-Ck.keys_len,<-Ck.keys_len];refine aD (fi C m i).length_le ?_;rw [Ck.keys_len,Ck.keys_len];exact qw _ _ _
structure b8 (D:Dk) (C:Ck) (m:List UInt8):Prop where
 map:qF (C.look D 2) m
 full:C.full=false
 nodup:C.keys.Nodup
structure gh (D:Dk) (C C':Ck) (m m':List UInt8) (pb fb:List Nat):Prop where
 taken:∀i,zT m' i=(zT m i&&decide (i+21∉fb))
 look:∀j:Nat,j∉pb->j∉fb->j≠2->C'.look D j=C.look D j
 keys:∀k∈C'.keys,k∈C.keys\/k∈pb\/k=2
theorem gh.refl(D:Dk)(C:Ck)(m:List UInt8):gh D C C m m [] []:=⟨λi=>by simp,λ_ _ _ _=>rfl,λ_ h=>.inl h⟩
theorem gh.trans{c e:Ck}{f g:List UInt8}{p1 p2 d l:List Nat}(h:gh D C c m f p1 d)(k:gh D c e f g p2 l):gh D C e m g (p1++p2) (d++l) where
 taken:=λi=>by rw [k.taken,h.taken,Bool.and_assoc];congr 1;simp [ah,not_or]
 look:=λj b h2 n=>by rw [ah,not_or] at b h2;rw [k.look j b.2 h2.2 n,h.look j b.1 h2.1 n]
 keys:=λo a=>by
  simp only [ah];rcases k.keys o a with a|a|a
  .rcases h.keys o a with a|a|a;.exact .inl a
   .exact .inr (.inl (.inl a))
   .exact .inr (.inr a)
  .exact .inr (.inl (.inr a))
  .exact .inr (.inr a)
theorem gh.put(D:Dk)(C:Ck)(m:List UInt8)(i:Nat)(b:List Value):gh D C (C.put i b) m m [i] [] where
 taken:=λi=>by simp
 look:=λj a _ _=>zZ C D i b j (λe=>a (by rw [az];omega))
 keys:=λk c=>((xh C i b k).1 c).elim .inl (λe=>.inr (.inl (by rw [e];simp)))
theorem b8.put(h:b8 D C m){i:Nat}(a:i≠2)(b:List Value):b8 D (C.put i b) m:=
 ⟨h.map.put i b a,by rw [qI];exact h.full,yJ h.nodup i b⟩
theorem gh.free(h:b8 D C m){i:Nat}(c:i<979):gh D C (C.free m i) m (jN m i) [] [i+21] where
 taken:=λj=>by rw [Kp (by rw [h.map.len];omega)];congr 1;simp
 look:=λj _ a h2=>fh C D m i j h2 (by simpa using a)
 keys:=λk b=>by
  rcases (xh C 2 _ k).1 ((fi C m i).subset b) with a|a;.exact .inl a
  .exact .inr (.inr a)
theorem b8.free(h:b8 D C m)(i:Nat):b8 D (C.free m i) (jN m i):=
 ⟨⟨by rw [VP];exact h.map.len,.inl (Uu C D m i)⟩,by show (C.put 2 _).full=false;rw [qI];exact h.full,(fi C m i).nodup (yJ h.nodup _ _)⟩
theorem gh.sub{d:Ck}{f:List UInt8}{e a fb:List Nat}(h:gh D C d m f e fb)(i:∀j∈e,j∈a\/j∈fb)(l:∀k∈d.keys,k∈e->k∈a):gh D C d m f a fb where
 taken:=h.taken
 look:=λj c h2 n=>h.look j (λg=>(i j g).elim c h2) h2 n
 keys:=λk b=>(h.keys k b).imp id (λc=>c.imp (l k b) id)
end prog
namespace prog
open ref
variable {h b:Nat}{q p1 p2:Pl}{fb:List Nat}
theorem YC{β:Type}{pg:Pg->β}{rd f:Nat->β}:∀{h:Nat} {u v:Tr h},u.LayV pg rd->v.LayV pg rd->(u.blocks++v.blocks).Nodup->f u.blk=pg (zc (zN h) (u.items++v.items))->(∀j∈u.blocks++v.blocks,j≠u.blk->j≠v.blk->f j=rd j)->(u.join v).LayV pg f
 |0,u,v,_,_,_,hb,_=>hb
 |h+1,u,v,lu,lv,hn,hb,e=>by
  have g:(u.1::zE u.2++v.1::zE v.2).Nodup:=hn;rw [aN,iM,iM] at g;obtain⟨⟨m,_⟩,⟨h2,_⟩,l⟩:=g;refine⟨?_,λc b=>?_⟩;.rw [xM];exact hb
  .have k:c∈u.2++v.2:=b;rcases ah.1 k with b|b
   .refine(lu.2 c b).congr (λj i=>?_);have a:=zU b i;exact e j (af _ (am _ a)) (λd=>m (by rw [show j=u.1 from d] at a;exact a)) (λd=>l j (am _ a) v.1 (al ..) d)
   .refine(lv.2 c b).congr (λj i=>?_);have a:=zU b i;exact e j (av _ (am _ a)) (λd=>l u.1 (al ..) j (am _ a) d.symm) (λd=>h2 (by rw [show j=v.1 from d] at a;exact a))
theorem Ga{β:Type}{pg:Pg->β}{rd:Nat->β}(m b:Nat):∀{h:Nat} {u:Tr h},(∀(d:Nat->β),d u.blk=pg (zc (zN h) u.items)->(∀j,j≠u.blk->d j=rd j)->u.LayV pg d)->u.blk∉u.blocks.tail->rd u.blk=pg (zc (zN h) (u.items.take m))->rd b=pg (zc (zN h) (u.items.drop m))->(u.cutL m).LayV pg rd/\(u.cutR m b).LayV pg rd
 |0,u,_,_,h1,h2=>⟨h1,h2⟩
 |h+1,u,l,hn,h1,h2=>by
  have i:=l (λj=>if j=u.blk then pg (zc 4 u.items) else rd j) (by simp [zN]) (λj f=>aw f)
  have g:∀c∈u.2,c.2.LayV pg rd:=λc a=>(i.2 c a).congr (λj f=>(aw (λe=>hn (by
   have:j∈zE u.2:=zU a f
   rw [e] at this;exact this))).symm)
  obtain⟨k,n⟩:=Zm m b u;exact⟨⟨by rw [k];exact h1,λc a=>g c (aP a)⟩,⟨by rw [n];exact h2,λc a=>g c (eK a)⟩⟩
theorem jI{A B:List (Pl×Tr h)}{tc tc':Tr h}(c:(tc'.blocks++fb).Perm tc.blocks):
 (Tr.blocks (h:=h+1) (b,A++(q,tc')::B)++fb).Perm (Tr.blocks (h:=h+1) (b,A++(q,tc)::B)):=by
 show (b::zE (A++(q,tc')::B)++fb).Perm (b::zE (A++(q,tc)::B));rw [lJ] at c ⊢;intro a;have:=c a;simp only [qo,qA,aT,l4,mL] at this ⊢;omega
theorem dd{A B X e:List (Pl×Tr h)}{tc tc' u v:Tr h}(d:(tc'.blocks++fb).Perm tc.blocks)(P:KL A B q tc' X e p1 p2 u v):
 (Tr.blocks (h:=h+1) (b,X++(p1,u.join v)::e)++(fb++[v.blk])).Perm (Tr.blocks (h:=h+1) (b,A++(q,tc)::B)):=by
 refine List.Perm.trans ?_ (jI d);show (b::zE (X++(p1,u.join v)::e)++(fb++[v.blk])).Perm (b::zE (A++(q,tc')::B)++fb);have c:=vj u v;rw [P.eq];rw [lJ] at c ⊢;intro a;have:=c a;simp only [qo,qA,aT,l4,mL,List.count_nil] at this ⊢;omega
theorem de{A B X f:List (Pl×Tr h)}{q':Pl}{tc tc' u v:Tr h}(m:Nat)(e:(tc'.blocks++fb).Perm tc.blocks)(P:KL A B q tc' X f p1 p2 u v):
 (Tr.blocks (h:=h+1) (b,X++(p1,(u.join v).cutL m)::(q',(u.join v).cutR m v.blk)::f)++fb).Perm (Tr.blocks (h:=h+1) (b,A++(q,tc)::B)):=by
 refine List.Perm.trans ?_ (jI e);show (b::zE (X++(p1,(u.join v).cutL m)::(q',(u.join v).cutR m v.blk)::f)++fb).Perm (b::zE (A++(q,tc')::B)++fb);have d:=vj u v;have c:=XW m v.blk (u.join v);rw [P.eq];rw [lJ] at d c ⊢;intro a;have:=d a;have:=c a;simp only [qo,qA,aT,l4,mL,List.count_nil] at*;omega
def jO{h:Nat}(c:Pl×Tr h):En:=⟨c.1,false,0,c.2.blk⟩
theorem XY{A B X c:List (Pl×Tr h)}{tc tc' u v:Tr h}(a:tc'.blk=tc.blk)(P:KL A B q tc' X c p1 p2 u v):
 (A++(q,tc)::B).map jO=X.map jO++jO (p1,u)::jO (p2,v)::c.map jO:=by
 have b:(A++(q,tc)::B).map jO=(A++(q,tc')::B).map jO:=by simp [jO,a]
 rw [b,P.eq];simp
theorem Gb{X c:List En}{b f z:En}{r:Nat}(e:r=X.length+1)(a:List En)(d:a=X++b::f::c):r<a.length/\(∀(h:r-1<a.length),a[r-1]=b)/\(∀(h:r<a.length),a[r]=f)/\a.eraseIdx r=X++b::c/\a.set r z=X++b::z::c:=by
 subst e d;refine⟨by simp,λh=>by simp,λh=>?_,?_,?_⟩;.simp [i6]
 .rw [List.eraseIdx_append_of_length_le (by omega)];simp
 .rw [List.set_append_right _ _ (by omega)];simp
end prog
end Go.Proofs.YtcoengihaobddaaGreatDoor

/- Part 28 of 36 of a proof: Rem6, Rem7 -/
import Derived.Test.YtcoengihaobddaaGreatDoorJc27
set_option maxHeartbeats 8000000
set_option linter.unusedVariables false
set_option linter.unusedSimpArgs false
set_option maxRecDepth 8000
namespace Go.Proofs.YtcoengihaobddaaGreatDoor
namespace prog
open Go.ChangeShapes Go.WideShapes Go.ChangeAt Go.RowKit disk ref
open keys (zh ze zy zs)
structure Zl (bc bd:Nat) (S:Nat->Prop) (D:Dk) (C:Ck) (es:List En) (c:Nat) (es2:List En) (C2:Ck):Prop where
 go:∀(w:World) (T:Nat->Prop) (r:Int) (g cap:Nat),0<=r->r<=4611686018427380000->Cw w bc bd S T {D with reads:=r} C->w.ownsRow 0 109 5 (.slice (some ⟨g,0,none⟩) es.length cap) es.length (zj es)->¬S g->¬T g->
  Calls Tryz.prog 180 #[.agg #[.int .u8 4,.slice (some ⟨g,0,none⟩) es.length cap],.pointer (some ⟨bc,0,none⟩),.int .i64 c] w λx w'=>x=.returned (.agg #[.int .u8 4,.slice (some ⟨g,0,none⟩) es2.length cap])/\w'.ownsRow 0 109 5 (.slice (some ⟨g,0,none⟩) es2.length cap) es2.length (zj es2)/\(∃(n:Int) (T':Nat->Prop),0<=n/\n<=3/\Cw w' bc bd S T' {D with reads:=r+n} C2/\∀j,T' j->T j\/w.heap.size<=j)/\za (λj=>j=bd\/T j\/j=g) w w'
theorem Zl.reads{e bd:Nat}{S:Nat->Prop}{D:Dk}{C:Ck}{b:List En}{c:Nat}{a:List En}{d:Ck}(h:Zl e bd S D C b c a d)(r:Int):Zl e bd S {D with reads:=r} C b c a d:=⟨h.go⟩
theorem KH(w:World)(b:Option Addr)(n a:Nat)(h:List Value)(f:w.ownsRow 0 109 5 (.slice b n a) n h)(d m e:Nat)(c:List En)(q:c.length=m)(h2:w.ownsRow 0 109 5 (.slice (some ⟨d,0,none⟩) m e) m (zj c))(t:1<=m)(s:n<=1000)(r:m<=1000):
 ∃g l w',(Xs #[.slice b n a,.slice (some ⟨d,0,none⟩) m e]).run Tryz.prog w=.ok (.slice (some ⟨g,0,none⟩) (n+m) l) w'/\w'.ownsRow 0 109 5 (.slice (some ⟨g,0,none⟩) (n+m) l) (n+m) (h++zj c)/\w.grownBy w' (Value.slice b n a).ownBlock/\((Value.slice b n a).ownBlock=some g\/g=w.heap.size)/\g<w'.heap.size:=by
 obtain⟨p,o,j,k,i⟩:=eZ Tryz.infoEntry;exact run_append_lies (P:=Tryz.prog) (w:=w) 207 207 0 109 p _ 5 48 Tryz.underlying207 o j k i rfl (by omega) (.slice b n a) n h f ⟨d,0,none⟩ m e (zj c) (by rw [yk,q]) (h2.cells (g:=d) rfl) (ki _) (by omega) (by unfold maxLen;omega) (by omega) (aj _) _ rfl
structure Do (b bd k n1 cap1 m cap2:Nat) (a1:Option Addr) (ev eu:List En) (w2:World) (g2 g3 cp:Nat) (w3 W4:World):Prop where
 c0:w2.cell? ⟨b,0,none⟩=some (.int .u8 (k:Int))
 c1:w2.cell? ⟨b,1,none⟩=some (.slice a1 n1 cap1)
 lt:b<w2.heap.size
 run:(Xs #[.slice a1 n1 cap1,.slice (some ⟨g2,0,none⟩) m cap2]).run Tryz.prog w2=.ok (.slice (some ⟨g3,0,none⟩) (n1+m) cp) w3
 d1:w3.cell? ⟨b,1,none⟩=some (.slice a1 n1 cap1)
 df:w3.frozen? ⟨b,1,none⟩=false
 w4:w3.setCell ⟨b,1,none⟩ (.slice (some ⟨g3,0,none⟩) (n1+m) cp)=W4
 blk:W4.heap[b]? =some (.cells #[.int .u8 (k:Int),.slice (some ⟨g3,0,none⟩) (n1+m) cp] 209 (0,0))
 own:W4.ownsRow 0 109 5 (.slice (some ⟨g3,0,none⟩) (n1+m) cp) (n1+m) (zj (eu++ev))
 kept:za (λj=>j=b\/(Value.slice a1 n1 cap1).ownBlock=some j) w2 W4
 at_:(Value.slice a1 n1 cap1).ownBlock=some g3\/g3=w2.heap.size
 cap:n1+m<=cp/\cp<=9223372036854775807
theorem GJ{r A:World}{b bd k d a m f:Nat}{u F:Option Addr}{v n:List En}(H:r.heap[b]? =some (.cells #[.int .u8 (k:Int),.slice u d a] 209 (0,0)))(x:r.ownsRow 0 109 5 (.slice u d a) d (zj v))(q:∀j,(Value.slice u d a).ownBlock=some j->j≠b/\j≠bd/\j<r.heap.size)(N:b≠bd)(Q:za (λj=>j=bd) r.drew A)
 (h2:A.ownsRow 0 109 5 (.slice F m f) m (zj n)) (T:n.length=m) (I:1<=m) (W:d<=6) (V:m<=6):∃e,F=some ⟨e,0,none⟩/\∃o z l R,Do b bd k d a m f u n v A e o z l R:=by
 have G:=(lT H);have D:=((za.drew (λ_=>False) r).mono fE).trans Q iL;have i:=(D.block b G N).trans H;have s:=(lT i);have K:=D.owns x (λj t=>(q j t).2.1)
 obtain⟨e,rfl⟩:∃e,F=some ⟨e,0,none⟩:=by
  rcases h2.2 with⟨_,ab⟩|⟨g,c,J,y,_⟩;.omega
  .simp only [Value.slice.injEq] at y;exact⟨g,y.1⟩
 obtain⟨o,z,l,E,p,B,C,Y⟩:=KH A u d a (zj v) K e m f n T h2 I (by omega) (by omega);have M:=za.grown B (λj t=>t);have w:=(M.block b s (λU=>(q b U).1 rfl)).trans i;have O:=za.setCell (S:=λj=>j=b) l ⟨b,1,none⟩ (.slice (some ⟨o,0,none⟩) (d+m) z) rfl
 have X:o≠b:=by
  rcases C with h|h;.exact(q o h).1
  .omega
 have L:zj (v++n)=zj v++zj n:=by simp [zj]
 refine⟨e,rfl,o,z,l,_,cR i rfl,cR i rfl,s,E,cR w rfl,aa l b 1 _ _ w,rfl,heap_setCell_same l b 1 _ _ _ w,?_,(M.mono (λ_ h=>.inr h)).trans O (λ_ h=>.inl (.inl h)),C,?_⟩
 .rw [L];exact O.owns p (λj t Z=>by simp [Value.ownBlock] at t;omega)
 .rcases p.2 with⟨x,h2⟩|⟨ad,P,J,y,_,ac,x,h2,_⟩;.cases x
  .cases y;unfold maxLen at h2;omega
theorem U8{w:World}{g n c:Nat}{a:List En}(j:a.length=n)(h:w.ownsRow 0 109 5 (.slice (some ⟨g,0,none⟩) n c) n (zj a))(i:Nat)(x:i<a.length)(k:ByteArray)(f:Int):
 ((w.setCell ⟨g,i*5,none⟩ (.string k)).setCell ⟨g,i*5+1,none⟩ (.int .i64 f)).ownsRow 0 109 5 (.slice (some ⟨g,0,none⟩) n c) n (zj (a.set i ⟨⟨k,f⟩,a[i].mark,a[i].size,a[i].at_⟩)):=by
 rcases h.2 with⟨t,_⟩|⟨D,s,b,y,u,v,B,h2,C,z⟩;.cases t
 .cases y;have l:a=a.take i++a[i]::a.drop (i+1):=by rw [<-aI,aE]
  have m:zj a=zj (a.take i)++(qt a[i]++zj (a.drop (i+1))):=by
   conv=>lhs;rw [l]
   rw [qS,xO]
  have d:(zj (a.take i)).length=i*5:=by rw [yk,aC];congr 1;omega
  have e:zj (a.set i ⟨⟨k,f⟩,a[i].mark,a[i].size,a[i].at_⟩)=(zj a).take (i*5)++[.string k,.int .i64 f]++(zj a).drop (i*5+2):=by
   rw [hE,aB x,qS,xO,m];generalize zj (a.take i)=A at*;have p:(A++(qt a[i]++zj (a.drop (i+1)))).take (i*5)=A:=by rw [<-d];exact iE
   have o:(A++(qt a[i]++zj (a.drop (i+1)))).drop (i*5+2)=(qt a[i]++zj (a.drop (i+1))).drop 2:=by rw [<-d];exact iW _
   rw [p,o];simp [qt]
  have q:i*5+[Value.string k,Value.int .i64 f].length<=b.size:=by simp only [ae,hO];omega
  have r:=qa g 109 [.string k,.int .i64 f] (i*5) w b v q;refine⟨by rw [yk,ew,j],.inr ⟨g,c,_,rfl,u,r,B,h2,?_,?_⟩⟩
  .simp;omega
  .show (b.toList.take (i*5)++[Value.string k,Value.int .i64 f]++b.toList.drop (i*5+2)).take (n*5)=_;rw [e,<-z];rw [mz,an (by simp;omega)];congr 1;.rw [iu,a8 (by omega)]
   .rw [ml];congr 1;simp;omega
section
attribute [local go_sem ↓] dj
theorem Yw(B bd:Nat)(S:Nat->Prop)(D:Dk)(C:Ck)(m:List UInt8)(cK:qF (C.look D 2) m)(b:List En)(dc:b.length<=6)(c r:Nat)(c9:max c 1=r)(ar:r<b.length)(E i:Nat)(bf:b[r-1].at_=E)(b3:b[r].at_=i+21)(cb:E<65536)(cm:E≠2)(dD:i<979)(k:Nat)(a5:k=4\/k=5)(d f:List En)(aS:∀e∈d,e.Ok)(bq:∀e∈f,e.Ok)(bS:k=4->∀e∈d,e.mark=false/\e.size=0)(bC:k=4->∀e∈f,e.mark=false/\e.size=0)(b0:d.length<=6)(bY:f.length<=6)(cC:1<=f.length)(bV:C.look D E=zm (zc k d))(b5:C.look D ((i+21:Nat):Int)=zm (zc k f))(dV:C.ws.length<800)
 (V:List En) (aD:Ck) (U:((d++f).length<=6/\V=b.eraseIdx r/\aD=(C.put E (zm (zc k (d++f)))).free m i)\/(6<(d++f).length/\V=b.set r ⟨((d++f).getD ((d++f).length/2) gQ).pl,b[r].mark,b[r].size,b[r].at_⟩/\aD=(C.put E (zm (zc k ((d++f).take ((d++f).length/2))))).put (i+21) (zm (zc k ((d++f).drop ((d++f).length/2)))))):
 Zl B bd S D C b c V aD:=by
 refine⟨λw T A g o cU d0 Z ak aV bX=>?_⟩;obtain⟨q,rfl⟩:∃q,r=q+1:=⟨r-1,by omega⟩;have dU:Hid (Cw w B bd S T {D with reads:=A} C):=Z;have dl:Hid (qF (C.look D 2) m):=cK;have dx:Hid (w.ownsRow 0 109 5 (.slice (some ⟨g,0,none⟩) b.length o) b.length (zj b)):=ak;have da:Hid (∀e∈d,e.Ok):=aS;have dg:Hid (∀e∈f,e.Ok):=bq;have cE:Hid (k=4->∀e∈d,e.mark=false/\e.size=0):=bS;have cV:Hid (k=4->∀e∈f,e.mark=false/\e.size=0):=bC;have cq:Hid (C.look D E=zm (zc k d)):=bV;have di:Hid (C.look D ((i+21:Nat):Int)=zm (zc k f)):=b5;have d3:bd<w.heap.size:=Z.disk.lt bd Z.disk.bdS;have aO:Hid (∀j,T j->j<w.heap.size):=Z.chg.lt;have bk:Hid (∀j,S j->j<w.heap.size):=Z.disk.lt;have bz:=(ak.lt g rfl).2;have bR:Hid (¬S g):=aV;have ad:Hid (¬T g):=bX;have cg:g≠bd:=λe=>aV (by rw [e];exact Z.disk.bdS);have c6:Hid (max c 1=q+1):=c9
 have bA:Hid (w.cell? ⟨g,q*5+4,none⟩=some (.int .i64 (E:Int))/\w.cell? ⟨g,(q+1)*5+4,none⟩=some (.int .i64 ((i:Int)+21))):=by have de:qg w (λ_=>True) (some ⟨g,0,none⟩) b:=qg.of_own ak (λ_ _=>eI) (by omega);obtain⟨-, -, -, -, a0, -⟩:=de.cells q (by omega);obtain⟨-, -, -, -, bb, -⟩:=de.cells (q+1) ar;simp only [Nat.add_sub_cancel] at bf;rw [bf] at a0;rw [b3] at bb;simp only [eT] at a0 bb;exact⟨a0,by rw [bb];simp⟩
 change Hid _ at U;clear Z cK ak aS bq bS bC bV b5 aV bX c9 bf b3;have aw:Hid (za (λ_=>False) w ((w.alloc (.cells #[.int .u8 4,.slice (some ⟨g,0,none⟩) b.length o] 209)).alloc (.cells #[.int .u8 0,.slice none 0 0] 209))):=za.alloc2 _ _ _;have bW:Hid (((w.alloc (.cells #[.int .u8 4,.slice (some ⟨g,0,none⟩) b.length o] 209)).alloc (.cells #[.int .u8 0,.slice none 0 0] 209)).heap[w.heap.size]? =some (.cells #[.int .u8 4,.slice (some ⟨g,0,none⟩) b.length o] 209 (0,0))):=((za.alloc (λ_=>False) _ _).block w.heap.size (by simp) id).trans (ac w _);have cD:Hid (((w.alloc (.cells #[.int .u8 4,.slice (some ⟨g,0,none⟩) b.length o] 209)).alloc (.cells #[.int .u8 0,.slice none 0 0] 209)).heap[w.heap.size+1]? =some (.cells #[.int .u8 0,.slice none 0 0] 209 (0,0))):=eF w _ _;have d4:((w.alloc (.cells #[.int .u8 4,.slice (some ⟨g,0,none⟩) b.length o] 209)).alloc (.cells #[.int .u8 0,.slice none 0 0] 209)).heap.size=w.heap.size+2:=by simp
 go_enter Tryz.func180,Tryz.ntmps180;go_wp2_with fail
 case' inl=>
  have e:(Value.int .i64 1)=.int .i64 ((q:Int)+1):=by have:=c6.out;congr 1;omega
  conv=>arg 4;rw [e]
  clear e
 case' inr=>
  have e:(Value.int .i64 (c:Int))=.int .i64 ((q:Int)+1):=by have:=c6.out;congr 1;omega
  conv=>arg 4;rw [e]
  clear e
 all_goals
  clear h;generalize ((w.alloc (.cells #[.int .u8 4,.slice (some ⟨g,0,none⟩) b.length o] 209)).alloc (.cells #[.int .u8 0,.slice none 0 0] 209))=ay at*;have df:ay.cell? ⟨w.heap.size,1,none⟩=some (.slice (some ⟨g,0,none⟩) b.length o):=cR bW.out rfl;have dh:ay.cell? ⟨g,q*5+4,none⟩=some (.int .i64 (E:Int)):=(aw.cell (a:=⟨g,q*5+4,none⟩) bz id).trans bA.1;have dd:ay.cell? ⟨g,(q+1)*5+4,none⟩=some (.int .i64 ((i:Int)+21)):=(aw.cell (a:=⟨g,(q+1)*5+4,none⟩) bz id).trans bA.2;have d2:(q:Int)+1<(b.length:Int):=by omega
  have dW:(q:Int)<(b.length:Int):=by omega
  have dJ:(0:Int)<=(q:Int)+1:=by omega
  have dZ:IntKind.i64.wrap ((q:Int)+1-1)=(q:Int):=by rw [Int.add_sub_cancel];exact IntWalk.i64_in _ (by omega)
  have dX:IntKind.i64.wrap (q:Int)=(q:Int):=IntWalk.i64_in _ (by omega);go_region_held3 (λw'=>w'.cell? ⟨w.heap.size,1,none⟩=some (.slice (some ⟨g,0,none⟩) b.length o)/\w'.cell? ⟨g,q*5+4,none⟩=some (.int .i64 (E:Int))/\w'.cell? ⟨g,(q+1)*5+4,none⟩=some (.int .i64 ((i:Int)+21))) (go_keep) (fail);have cP:Hid (Cw ay.drew B bd S T {D with reads:=A} C):=(dU.kept0 aw).kept0 (za.drew _ ay)
  have bQ:Hid (∀(u:World) (an:Int),0<=an->an<=1->Cw u B bd S T {D with reads:=A+an} C->Calls Tryz.prog 174 #[.iface 142 (.pointer (some ⟨B,0,none⟩)),.int .i64 ((i:Int)+21)] u λe w'=>∃bo Y,e=.returned (.agg #[.int .u8 (k:Int),.slice bo f.length Y])/\(∃n:Int,0<=n/\n<=1/\Cw w' B bd S T {D with reads:=A+an+n} C)/\za (λi=>i=bd) u w'/\w'.ownsRow 0 109 5 (.slice bo f.length Y) f.length (zj f)):=λu an c2 F aS=>by have:=yB u B bd S T {D with reads:=A+an} C aS (by show 0<=A+an;omega) (by show A+an<=_;omega) (i+21) (by omega) k f a5 dg cV bY (by rw [zF];exact di);rw [show ((i+21:Nat):Int)=(i:Int)+21 from by omega] at this;exact this.mono (λe w' ⟨bo,Y,dO,dH,dp,_,dC,_⟩=>⟨bo,Y,dO,dH,dp,dC⟩)
  go_wp2_with fail;refine(yB ay.drew B bd S T {D with reads:=A} C cP cU (by show A<=_;omega) E cb k d a5 da cE b0 (by rw [zF];exact cq)).mono ?_;rintro c3 p ⟨ab,y,rfl,⟨H,ch,b7,b6⟩,bi,bp,aj,a8⟩;have bB:Hid (Cw p B bd S T {D with reads:=A+H} C):=b6;have ec:ay.heap.size<=p.heap.size:=bi.size;have a6:Hid (za (λj=>j=bd) ay p):=((za.drew (λ_=>False) ay).mono fE).trans bi iL;have bv:Hid (p.ownsRow 0 109 5 (.slice ab d.length y) d.length (zj d)):=aj;have a1:Hid (∀j,(Value.slice ab d.length y).ownBlock=some j->ay.heap.size<=j/\j<p.heap.size):=λj l=>⟨a8 j l,(aj.lt j l).2⟩;clear b6 bi bp aj a8 df dh dd;go_wp2_with fail;have aL:Hid (za (λ_=>False) p (p.alloc (.cells #[.int .u8 (k:Int),.slice ab d.length y] 209))):=za.alloc _ _ _;have aG:Hid ((p.alloc (.cells #[.int .u8 (k:Int),.slice ab d.length y] 209)).heap[p.heap.size]? =some (.cells #[.int .u8 (k:Int),.slice ab d.length y] 209 (0,0))):=ac p _;have d8:(p.alloc (.cells #[.int .u8 (k:Int),.slice ab d.length y] 209)).heap.size=p.heap.size+1:=by simp
  generalize (p.alloc (.cells #[.int .u8 (k:Int),.slice ab d.length y] 209))=aE at*;have bE:Hid (Cw aE.drew B bd S T {D with reads:=A+H} C):=(bB.kept0 aL).kept0 (za.drew _ aE);have ds:aE.cell? ⟨p.heap.size,1,none⟩=some (.slice ab d.length y):=cR aG.out rfl;have cI:=aa aE p.heap.size 1 _ _ aG.out;have cz:∀(w:World) (br al:Nat),(Instr.field 209 (.agg #[.int .u8 (k:Int),.slice (some ⟨br,0,none⟩) f.length al]) 1).run Tryz.prog w=.ok (.slice (some ⟨br,0,none⟩) f.length al) w:=λ_ _ _=>by kernel_rfl
  go_region_law (go_simp;go_at_call 174;refine(bQ _ H ch b7 (by exact bE)).mono ?_;rintro c3 bm ⟨ej,al,rfl,⟨L,dG,dq,bG⟩,a3,aI⟩;have ae:Hid (Cw bm B bd S T {D with reads:=A+H+L} C):=bG;have bc:Hid (za (λj=>j=bd) aE.drew bm):=a3;obtain⟨br,rfl,I,O,du,t,P⟩:=GJ (bd:=bd) aG (aL.owns bv nF) (λj l=>by have:=a1.out j l;omega) (by omega) a3 aI rfl cC b0 bY;have K:Hid (Do p.heap.size bd k d.length y f.length al ab f d bm br I O du t):=P;have bn:=P.c0;have a0:=P.c1;have bb:=P.lt;have dT:=P.run;have dF:=P.d1;have dA:=P.df;clear bG a3 aI P;dsimp only)
 all_goals
  rw [K.w4];have b2:Hid (t.heap[p.heap.size]? =_):=K.blk;have ea:aE.heap.size<=bm.heap.size:=bc.size;have ed:=K.kept.size;have aB:Hid (∀j,(Value.slice ab d.length y).ownBlock=some j->ay.heap.size<=j/\j<p.heap.size):=a1.out;have bj:Hid (za (λj=>j=bd) ay bm):=((a6.trans aL fE).trans (za.drew (λ_=>False) aE) fE).trans bc iL
  have aT:Hid (∀j,j<ay.heap.size->¬(j=p.heap.size\/(Value.slice ab d.length y).ownBlock=some j)):=λj l s=>by
   rcases s with h|h;.omega
   .have:=aB.out j h;omega
  have ai:Hid (za (λj=>j=bd\/ay.heap.size<=j) ay t):=(bj.mono iL).trans K.kept (λj l=>.inl (.inr (by
   rcases l with h|h;.omega
   .exact(aB j h).1)))
  have cy:Hid (Cw t B bd S T {D with reads:=A+H+L} C):=ae.kept K.kept (λj l s=>aT j (by have:=bk.out j l;omega) s) (λj l s=>aT j (by have:=aO.out j l;omega) s)
  have c7:Hid (ay.heap.size<=I/\I≠p.heap.size):=by
   rcases K.at_ with h|h;.have:=aB.out I h;exact⟨this.1,by omega⟩
   .exact⟨by omega,by omega⟩
  have cL:Hid (t.ownsRow 0 109 5 (.slice (some ⟨I,0,none⟩) (d.length+f.length) O) (d.length+f.length) (zj (d++f))):=K.own;have bF:Hid (d.length+f.length<=O/\O<=9223372036854775807):=K.cap;have cl:Hid (t.heap[w.heap.size]? =_):=(ai.block _ (by omega) (by omega)).trans bW.out;have cn:Hid (t.heap[w.heap.size+1]? =_):=(ai.block _ (by omega) (by omega)).trans cD.out;have cW:Hid (t.ownsRow 0 109 5 (.slice (some ⟨g,0,none⟩) b.length o) b.length (zj b)):=ai.owns (aw.owns dx nF) (λj l s=>by simp [Value.ownBlock] at l;omega);clear bn a0 bb dT dF dA ds cI cz;have c0:t.cell? ⟨p.heap.size,0,none⟩=some (.int .u8 (k:Int)):=cR b2.out rfl;have cF:t.cell? ⟨p.heap.size,1,none⟩=some (.slice (some ⟨I,0,none⟩) (d.length+f.length) O):=cR b2.out rfl
  have ct:Hid (((room k:Nat):Int)=6):=by show ((room k:Nat):Int)=6;rcases a5 with rfl|rfl<;>decide
  have aq:k<=6:=by omega
  have ee:p.heap.size<t.heap.size:=by omega
  clear K bc ae aL aG bE bQ bB a6 bv a1 aT bj;go_wp2_with fail;go_region_held3 (λw'=>w'.cell? ⟨p.heap.size,0,none⟩=some (.int .u8 (k:Int))/\w'.cell? ⟨p.heap.size,1,none⟩=some (.slice (some ⟨I,0,none⟩) (d.length+f.length) O)) (go_keep) ((go_at_call 129;refine(j9 _ k aq).mono ?_;rintro e G ⟨rfl,bL⟩;rw [bL,ct.out];clear bL G));have aJ:Hid (za (λ_=>False) t t.drew):=za.drew _ t;have bN:Hid (Cw t.drew B bd S T {D with reads:=A+H+L} C):=cy.kept0 aJ.out
  have b4:Hid (qg t.drew (λj=>j=I) (some ⟨I,0,none⟩) (d++f)):=by have F:=aJ.owns cL nF;rw [<-ag] at F;exact qg.of_own F (λj l=>by simp [Value.ownBlock] at l;exact l.symm) (by rw [ag];omega)
  have a7:Hid (∀e∈d++f,e.Ok):=λe dE=>(ah.1 dE).elim (da e) (dg e);have ao:Hid (∀j,w.heap.size<=j->¬T j):=λj l s=>by have:=aO.out j s;omega
  have aC:Hid (t.drew.heap[w.heap.size]? =_):=cl.out;have bg:Hid (t.drew.heap[w.heap.size+1]? =_):=cn.out;have bh:Hid (t.drew.ownsRow 0 109 5 (.slice (some ⟨g,0,none⟩) b.length o) b.length (zj b)):=aJ.owns cW nF;have aW:Hid (za (λj=>j=bd) w t.drew):=((aw.mono fE).trans ai (λj l=>l.elim .inl (λh=>.inr (by omega)))).trans aJ fE;have ca:t.drew.cell? ⟨p.heap.size,0,none⟩=some (.int .u8 (k:Int)):=c0;have cd:t.drew.cell? ⟨p.heap.size,1,none⟩=some (.slice (some ⟨I,0,none⟩) (d.length+f.length) O):=cF;have d7:t.drew.heap.size=t.heap.size:=rfl;clear c0 cF;have aY:t.drew.cell? ⟨w.heap.size,1,none⟩=some (.slice (some ⟨g,0,none⟩) b.length o):=cR aC.out rfl;have aP:Hid (d.length+f.length=(d++f).length):=by show _=_;rw [ag]
  generalize t.drew=X at*;rcases U.out with⟨J,W,ap⟩|⟨J,W,ap⟩
  .have ax:Hid (V=b.eraseIdx (q+1)):=W;have ae:Hid (aD=(C.put E (zm (zc k (d++f)))).free m i):=ap;have cM:(d.length:Int)+(f.length:Int)<=6:=by rw [ag] at J;omega
   have az:Hid ((d++f).length<=6):=J;clear W ap J U;go_wp2_with fail;refine(vh X B bd S T _ C bN _ _ O k a5 (d++f) b4 a7 az E (by omega) _ aP.symm).mono ?_;rintro c3 a4 ⟨rfl,⟨aR,bK,bJ⟩,aq⟩;have cA:Hid (Cw a4 B bd S aR {D with reads:=A+H+L} (C.put E (zm (zc k (d++f))))):=bK;have aQ:Hid (∀j,aR j->T j\/X.heap.size<=j):=bJ;have c5:Hid (za T X a4):=aq;have d5:=aq.size;clear bK bJ aq
   have dk:Hid (∀j,j<X.heap.size->¬T j->¬(j=bd\/aR j)\/j=bd):=λj l dc=>by
    by_cases h:j=bd;.exact .inr h
    .exact .inl (λs=>s.elim h (λdS=>(aQ j dS).elim dc (λh=>by omega)))
   have dj:=qy C E (zm (zc k (d++f)));have cG:Hid (qF ((C.put E (zm (zc k (d++f)))).look {D with reads:=A+H+L} 2) m):=by show qF _ m;rw [zF];exact dl.put E _ cm
   go_wp2_with fail;refine(gg a4 B bd S aR _ _ cA m cG (by show 0<=A+H+L;omega) (by show A+H+L<=_;omega) (by omega) i dD).mono ?_;rintro c3 R ⟨rfl,⟨cv,ce,dR,dI,bu,bM⟩,aU⟩;have cp:Hid (Cw R B bd S ce {D with reads:=A+H+L+cv} ((C.put E (zm (zc k (d++f)))).free m i)):=bu;have bU:Hid (∀j,ce j->aR j\/a4.heap.size<=j):=bM;have c1:Hid (za (λj=>j=bd\/aR j) a4 R):=aU;have d9:=aU.size;clear bu bM aU
   have af:Hid (za (λj=>j=bd\/T j) X R):=(c5.mono (λ_ h=>.inr h)).trans c1 (λj l=>by
    rcases l with h|h;.exact .inl (.inl h)
    .exact(aQ j h).imp .inr id)
   have bO:Hid (∀j,w.heap.size<=j->¬(j=bd\/T j)):=λj l s=>s.elim (λh=>by omega) (ao j l);have be:Hid (R.heap[w.heap.size]? =_):=(af.block _ (by omega) (bO _ (aF _))).trans aC.out;have ci:Hid (R.heap[w.heap.size+1]? =_):=(af.block _ (by omega) (bO _ (by omega))).trans bg.out;have cJ:Hid (R.ownsRow 0 109 5 (.slice (some ⟨g,0,none⟩) b.length o) b.length (zj b)):=af.owns bh (λj l s=>by simp [Value.ownBlock] at l;subst l;exact s.elim cg ad);have db:R.cell? ⟨w.heap.size,1,none⟩=some (.slice (some ⟨g,0,none⟩) b.length o):=cR be.out rfl;clear aY ca cd
   have cN:Hid (Calls Tryz.prog 181 #[.slice (some ⟨g,0,none⟩) b.length o,.int .i64 ((q:Int)+1),.int .i64 ((q:Int)+1+1)] R λe w'=>e=.returned (.slice (some ⟨g,0,none⟩) (b.length-1) o)/\w'.ownsRow 0 109 5 (.slice (some ⟨g,0,none⟩) (b.length-1) o) (b.length-1) (zj (b.eraseIdx (q+1)))/\za (λj=>j=g) R w'):=by have:=gd R g b.length o b rfl cJ (q+1) ar (by omega);simp only [Int.natCast_add,Int.cast_ofNat_Int] at this;exact this
   go_wp2_with fail;refine cN.mono ?_;rintro c3 N ⟨rfl,bs,av⟩;have cQ:Hid (za (λj=>j=g) R N):=av;have d1:=av.size;have M:Hid (N.heap[w.heap.size]? =_):=(av.block _ (by omega) (by omega)).trans be.out;have x:Hid (N.heap[w.heap.size+1]? =_):=(av.block _ (by omega) (by omega)).trans ci.out;change Hid _ at bs;clear av db;have dL:N.cell? ⟨w.heap.size,0,none⟩=some (.int .u8 4):=cR M.out rfl;have eh:N.cell? ⟨w.heap.size,1,none⟩=some (.slice (some ⟨g,0,none⟩) b.length o):=cR M.out rfl;have ei:=aa N w.heap.size 1 _ _ M.out;have dN:N.cell? ⟨w.heap.size+1,0,none⟩=some (.int .u8 0):=cR x.out rfl;have dP:N.cell? ⟨w.heap.size+1,1,none⟩=some (.slice none 0 0):=cR x.out rfl;have cS:=aa N (w.heap.size+1) 0 _ _ x.out;have cB:=aa N (w.heap.size+1) 1 _ _ x.out;go_wp2;have eb:=heap_setCell_same N w.heap.size 1 _ _ (.slice (some ⟨g,0,none⟩) (b.length-1) o) M.out;have ck:=za.setCell (S:=λj=>j=w.heap.size) N ⟨w.heap.size,1,none⟩ (.slice (some ⟨g,0,none⟩) (b.length-1) o) rfl;have cu:=(ck.block _ (by omega) (by omega)).trans x.out;generalize N.setCell ⟨w.heap.size,1,none⟩ (.slice (some ⟨g,0,none⟩) (b.length-1) o)=am at*;have aX:=heap_setCell_same am (w.heap.size+1) 0 _ _ (.int .u8 4) cu;have ba:=heap_setCell_same _ (w.heap.size+1) 1 _ _ (.slice (some ⟨g,0,none⟩) (b.length-1) o) aX;have bl:za (λj=>j=w.heap.size+1) am ((am.setCell ⟨w.heap.size+1,0,none⟩ (.int .u8 4)).setCell ⟨w.heap.size+1,1,none⟩ (.slice (some ⟨g,0,none⟩) (b.length-1) o)):=(za.setCell (S:=λj=>j=w.heap.size+1) am ⟨w.heap.size+1,0,none⟩ _ rfl).trans (za.setCell (S:=λj=>j=w.heap.size+1) _ ⟨w.heap.size+1,1,none⟩ _ rfl) iL;have b1:za (λj=>j=g\/j=w.heap.size\/j=w.heap.size+1) R ((am.setCell ⟨w.heap.size+1,0,none⟩ (.int .u8 4)).setCell ⟨w.heap.size+1,1,none⟩ (.slice (some ⟨g,0,none⟩) (b.length-1) o)):=((cQ.mono iL).trans ck (λj l=>.inl (.inr (.inl l)))).trans bl (λj l=>.inl (.inr (.inr l)));have au:V.length=b.length-1:=by rw [ax.out,iC ar]
   refine bodyPost_ret (v:=.agg #[.int .u8 4,.slice (some ⟨g,0,none⟩) (b.length-1) o]) (results_cell_row Tryz.results180 _ _ (w.heap.size+1) 209 _ (0,0) _ rfl ba Tryz.underlying209 rfl (by kernel_rfl)) rfl ⟨?_,?_,⟨H+L+cv,ce,by omega,by omega,?_,λj l=>?_⟩,?_⟩;.rw [au]
   .rw [au,ax.out];exact bl.owns (ck.owns bs (λj l bn=>by simp [Value.ownBlock] at l;omega)) (λj l bn=>by simp [Value.ownBlock] at l;omega)
   .rw [ae.out]
    have F:=cp.kept b1 (λj l s=>by
     have:=bk.out j l;rcases s with h|h;.exact bR (h▸l)
     .omega) (λj l s=>by
     have c8:T j\/X.heap.size<=j:=(bU j l).elim (aQ j) (λh=>.inr (by omega));rcases c8 with F|F
     .have:=aO.out j F;rcases s with h|h;.exact ad (h▸F)
      .omega
     .omega)
    simp only [a9] at F ⊢;exact F
   .rcases bU j l with F|F;.exact(aQ j F).imp id (λh=>by omega)
    .exact .inr (by omega)
   .refine((aW.mono iL).trans af (λj l=>.inl (l.imp id .inl))).trans b1 (λj l=>?_);rcases l with h|h;.exact .inl (.inr (.inr h))
    .exact .inr (by omega)
  .have ax:Hid (V=b.set (q+1) ⟨((d++f).getD ((d++f).length/2) gQ).pl,b[q+1].mark,b[q+1].size,b[q+1].at_⟩):=W;have ae:Hid (aD=(C.put E (zm (zc k ((d++f).take ((d++f).length/2))))).put (i+21) (zm (zc k ((d++f).drop ((d++f).length/2))))):=ap;have cM:¬(d.length:Int)+(f.length:Int)<=6:=by rw [ag] at J;omega
   have az:Hid (6<(d++f).length):=J;clear W ap J U;have aK:(d++f).length/2<(d++f).length:=by have:=az.out;omega
   obtain⟨z,b9⟩:∃z,(d++f)[(d++f).length/2]'aK=z:=⟨_,rfl⟩
   have dr:Hid ((d++f).getD ((d++f).length/2) gQ=z):=by show _=_;rw [aA,aH aK,iT];exact b9
   have cw:Hid (Calls Tryz.prog 200 #[.agg #[.int .u8 (k:Int),.slice (some ⟨I,0,none⟩) (d.length+f.length) O],.pointer (some ⟨B,0,none⟩),.int .i64 (E:Int),.int .i64 ((i:Int)+21)] X.drew λr w'=>r=.returned (.agg #[.string z.pl.key,.int .i64 z.pl.num])/\(∃cY,Cw w' B bd S cY {D with reads:=A+H+L} aD/\∀j,cY j->T j\/X.heap.size<=j)/\za T X.drew w'):=by have:=cZ X.drew B bd S T {D with reads:=A+H+L} C (bN.kept0 (za.drew _ X)) (λj=>j=I) (λj l s=>ao j (by rw [l];have:=c7.1;omega) s) (some ⟨I,0,none⟩) O k a5 (d++f) (b4.kept (za.drew (λ_=>False) X) nF) a7 ((d++f).length/2) rfl aK (by rw [<-aP.out];omega) (by rw [<-aP.out];exact bF.1) bF.2 E (i+21) (by omega);rw [b9,<-ae.out,<-aP.out,show ((i+21:Nat):Int)=(i:Int)+21 from by omega] at this;exact this
   clear b9 aK;have cr:Hid (qg X (λ_=>True) (some ⟨g,0,none⟩) b):=qg.of_own bh (λ_ _=>eI) (by omega)
   have bt:Hid (∀(u:World) (dm:Nat),u.ownsRow 0 109 5 (.slice (some ⟨g,0,none⟩) b.length o) b.length (zj b)->u.frozen? ⟨g,dm,none⟩=false):=λu dm aS=>by
    rcases aS.2 with⟨c2,_⟩|⟨eg,Y,dY,bq,ef,dw,_⟩;.cases c2
    .cases bq;exact aa u g dm _ _ dw
   obtain⟨b8,cj, -, -, -, -, -⟩:=cr.cells (q+1) ar;simp only [eT] at b8 cj;have co:Hid (X.cell? ⟨g,(q+1)*5,none⟩=_):=b8;have cH:Hid (X.cell? ⟨g,(q+1)*5+1,none⟩=_):=cj;have cs:Hid (X.cell? ⟨p.heap.size,0,none⟩=some (.int .u8 (k:Int))):=ca;have cO:Hid (X.cell? ⟨p.heap.size,1,none⟩=some (.slice (some ⟨I,0,none⟩) (d.length+f.length) O)):=cd;have cx:Hid (X.cell? ⟨w.heap.size,1,none⟩=some (.slice (some ⟨g,0,none⟩) b.length o)):=aY;have cX:¬w.heap.size=g:=by omega
   have dz:¬g=w.heap.size:=by omega
   have dK:¬g=p.heap.size:=by omega
   have bD:g<X.heap.size:=by omega
   have bx:w.heap.size<X.heap.size:=by omega
   have bw:p.heap.size<X.heap.size:=by omega
   have aM:Hid (¬T w.heap.size/\¬T p.heap.size):=⟨ao _ (aF _),ao _ (by omega)⟩;clear b8 cj;go_wp2_with fail;go_region_held3 (λw'=>w'.cell? ⟨w.heap.size,1,none⟩=some (.slice (some ⟨g,0,none⟩) b.length o)/\w'.cell? ⟨p.heap.size,0,none⟩=some (.int .u8 (k:Int))/\w'.cell? ⟨p.heap.size,1,none⟩=some (.slice (some ⟨I,0,none⟩) (d.length+f.length) O)) (go_keep) ((go_at_call 200;refine cw.mono ?_;rintro c3 G ⟨rfl,⟨cc,bZ,bT⟩,Q⟩;have cT:Hid (Cw G B bd S cc {D with reads:=A+H+L} aD):=bZ;have bH:Hid (∀j,cc j->T j\/X.heap.size<=j):=bT;have aN:Hid (za T X.drew G):=Q;have dB:G.cell? ⟨w.heap.size,1,none⟩=some (.slice (some ⟨g,0,none⟩) b.length o):=(Q.cell (a:=⟨w.heap.size,1,none⟩) bx aM.1).trans cx.out;have dM:G.cell? ⟨p.heap.size,0,none⟩=some (.int .u8 (k:Int)):=(Q.cell (a:=⟨p.heap.size,0,none⟩) bw aM.2).trans cs.out;have dy:G.cell? ⟨p.heap.size,1,none⟩=some (.slice (some ⟨I,0,none⟩) (d.length+f.length) O):=(Q.cell (a:=⟨p.heap.size,1,none⟩) bw aM.2).trans cO.out;have a2:Hid (G.ownsRow 0 109 5 (.slice (some ⟨g,0,none⟩) b.length o) b.length (zj b)):=Q.owns ((za.drew (λ_=>False) X).owns bh nF) (λj l s=>by simp [Value.ownBlock] at l;subst l;exact ad s);have dn:G.cell? ⟨g,(q+1)*5,none⟩=some (.string b[q+1].pl.key):=(Q.cell (a:=⟨g,(q+1)*5,none⟩) bD ad).trans co.out;have dv:G.cell? ⟨g,(q+1)*5+1,none⟩=some (.int .i64 b[q+1].pl.num):=(Q.cell (a:=⟨g,(q+1)*5+1,none⟩) bD ad).trans cH.out;have dQ:=bt.out G ((q+1)*5) a2.out;have dt:=bt.out G ((q+1)*5+1) a2.out;clear bZ bT Q));have d6:X.heap.size<=G.heap.size:=aN.size;have c4:Hid (G.heap[w.heap.size]? =_):=(aN.block _ bx aM.1).trans aC.out;have cf:Hid (G.heap[w.heap.size+1]? =_):=(aN.block _ (show w.heap.size+1<X.heap.size by omega) (ao _ (by omega))).trans bg.out;have bP:=U8 rfl a2 (q+1) ar z.pl.key z.pl.num;have aZ:Hid (za (λj=>j=g) G ((G.setCell ⟨g,(q+1)*5,none⟩ (.string z.pl.key)).setCell ⟨g,(q+1)*5+1,none⟩ (.int .i64 z.pl.num))):=(za.setCell (S:=λj=>j=g) G ⟨g,(q+1)*5,none⟩ _ rfl).trans (za.setCell (S:=λj=>j=g) _ ⟨g,(q+1)*5+1,none⟩ _ rfl) iL;change Hid _ at bP;clear dB dM dy dn dv dQ dt;generalize ((G.setCell ⟨g,(q+1)*5,none⟩ (.string z.pl.key)).setCell ⟨g,(q+1)*5+1,none⟩ (.int .i64 z.pl.num))=am at*;have M:Hid (am.heap[w.heap.size]? =_):=(aZ.block _ (by omega) cX).trans c4.out;have x:Hid (am.heap[w.heap.size+1]? =_):=(aZ.block _ (by omega) (by omega)).trans cf.out;have dL:am.cell? ⟨w.heap.size,0,none⟩=some (.int .u8 4):=cR M.out rfl;have dN:am.cell? ⟨w.heap.size+1,0,none⟩=some (.int .u8 0):=cR x.out rfl;have dP:am.cell? ⟨w.heap.size+1,1,none⟩=some (.slice none 0 0):=cR x.out rfl;have cS:=aa am (w.heap.size+1) 0 _ _ x.out;have cB:=aa am (w.heap.size+1) 1 _ _ x.out;clear aY ca cd;go_wp2;have aX:=heap_setCell_same am (w.heap.size+1) 0 _ _ (.int .u8 4) x.out;have ba:=heap_setCell_same _ (w.heap.size+1) 1 _ _ (.slice (some ⟨g,0,none⟩) b.length o) aX;have bl:za (λj=>j=w.heap.size+1) am ((am.setCell ⟨w.heap.size+1,0,none⟩ (.int .u8 4)).setCell ⟨w.heap.size+1,1,none⟩ (.slice (some ⟨g,0,none⟩) b.length o)):=(za.setCell (S:=λj=>j=w.heap.size+1) am ⟨w.heap.size+1,0,none⟩ _ rfl).trans (za.setCell (S:=λj=>j=w.heap.size+1) _ ⟨w.heap.size+1,1,none⟩ _ rfl) iL;have bI:za (λj=>j=g\/j=w.heap.size+1) G ((am.setCell ⟨w.heap.size+1,0,none⟩ (.int .u8 4)).setCell ⟨w.heap.size+1,1,none⟩ (.slice (some ⟨g,0,none⟩) b.length o)):=(aZ.mono iL).trans bl (λ_ h=>.inl (.inr h));have au:V.length=b.length:=by rw [ax.out,ew]
   refine bodyPost_ret (v:=.agg #[.int .u8 4,.slice (some ⟨g,0,none⟩) b.length o]) (results_cell_row Tryz.results180 _ _ (w.heap.size+1) 209 _ (0,0) _ rfl ba Tryz.underlying209 rfl (by kernel_rfl)) rfl ⟨?_,?_,⟨H+L,cc,by omega,by omega,?_,λj l=>(bH j l).imp id (λh=>by omega)⟩,?_⟩;.rw [au]
   .rw [au,ax.out,dr.out];exact bl.owns bP (λj l bn=>by simp [Value.ownBlock] at l;omega)
   .have F:=cT.kept bI (λj l s=>by
     have:=bk.out j l;rcases s with h|h;.exact bR (h▸l)
     .omega) (λj l s=>by
     rcases bH j l with F|F
     .have:=aO.out j F;rcases s with h|h;.exact ad (h▸F)
      .omega
     .omega)
    simp only [a9] at F ⊢;exact F
   .refine(((aW.mono iL).trans (za.drew (λ_=>False) X) fE).trans aN (λj l=>.inl (.inr (.inl l)))).trans bI (λj l=>?_);rcases l with h|h;.exact .inl (.inr (.inr h))
    .exact .inr (by omega)
end
structure gh (bc bd:Nat) (S T:Nat->Prop) (D:Dk) (C:Ck) (h at_:Nat) (p:Pl) (v:List Value) (s ok:Bool) (C':Ck):Prop where
 go:∀(w:World) (r:Int),0<=r->r+(4*h:Nat)<=4611686018427370000->Cw w bc bd S T {D with reads:=r} C->
  Calls Tryz.prog 141 #[.pointer (some ⟨bc,0,none⟩),.int .i64 at_,.agg #[.string p.key,.int .i64 p.num]] w λx w'=>x=.returned (.tuple #[.agg v.toArray,.bool s,.bool ok])/\(∃(n:Int) (T':Nat->Prop),0<=n/\n<=(4*h+1:Nat)/\Cw w' bc bd S T' {D with reads:=r+n} C'/\∀j,T' j->T j\/w.heap.size<=j)/\za (λj=>j=bd\/T j) w w'
structure Uk (bc bd:Nat) (S T:Nat->Prop) (D:Dk) (C:Ck) (at_:Nat) (p:Pl) (M:Nat) (v:List Value) (s ok:Bool) (C':Ck):Prop where
 go:∀(w0:World) (n0:Int),0<=n0->n0<=1->Cw w0 bc bd S T {D with reads:=D.reads+n0} C->Calls Tryz.prog 141 #[.pointer (some ⟨bc,0,none⟩),.int .i64 at_,.agg #[.string p.key,.int .i64 p.num]] w0 λr w'=>r=.returned (.tuple #[.agg v.toArray,.bool s,.bool ok])/\(∃(n:Int) (T':Nat->Prop),0<=n/\n<=M/\Cw w' bc bd S T' {D with reads:=D.reads+n0+n} C'/\∀j,T' j->T j\/w0.heap.size<=j)/\za (λj=>j=bd\/T j) w0 w'
structure Df (w W:World) (p:Pl):Prop where
 kept:za (λ_=>False) w W
 pl:W.heap[w.heap.size]? =some (.cells #[.string p.key,.int .i64 p.num] 107 (0,0))
 res:W.heap[w.heap.size+1]? =some (.cells #[.string ⟨#[]⟩,.int .i64 0,.bool false,.int .i64 0,.int .i64 0] 109 (0,0))
 size:W.heap.size=w.heap.size+2
theorem Ul(w:World)(p:Pl):Df w ((w.alloc (.cells #[.string p.key,.int .i64 p.num] 107)).alloc (.cells #[.string ⟨#[]⟩,.int .i64 0,.bool false,.int .i64 0,.int .i64 0] 109)) p:=
 ⟨za.alloc2 _ _ _,((za.alloc (λ_=>False) _ _).block w.heap.size (by simp) id).trans (ac w _),eF w _ _,by simp⟩
theorem y5{P:Program}{fn:Func}{p u v:Tmp}{a:TypeId}(h:fn.results=#[.cell p a,.tmp u,.tmp v])(tmps:Array Value)(w:World)(g:Nat)(t:TypeId)(b:Array Value)(e:Nat×Nat)(d:TypeDesc)
 (f:tmps.getD p undef=.pointer (some ⟨g,0,none⟩)) (k:w.heap[g]? =some (.cells b t e))
 (j:P.underlying a=some d) (i:(match d with|.struct _|.array _ _=>true|_=>false)=true) (l:(P.info? a).map (·.size)=some b.size):
 (results fn tmps).run P w=.ok (.tuple #[.agg b,tmps.getD u undef,tmps.getD v undef]) w:=by
 have c:tmps[p]?.getD undef=.pointer (some ⟨g,0,none⟩):=by simpa using f
 simp [results,h,c,asAddr,run_loadVar_row w g t a b e d k j i l]
theorem jE(w:World)(n b:Nat)(t:TypeId)(i k l m g f e c a d:Value)(h:w.heap[b]? =some (.cells #[i,k,l,m,g] t (0,0))):
 ((((((w.drewN n).setCell ⟨b,0,none⟩ f).setCell ⟨b,1,none⟩ e).setCell ⟨b,2,none⟩ c).setCell ⟨b,3,none⟩ a).setCell ⟨b,4,none⟩ d).heap[b]? =some (.cells #[f,e,c,a,d] t (0,0))/\za (λj=>j=b) w ((((((w.drewN n).setCell ⟨b,0,none⟩ f).setCell ⟨b,1,none⟩ e).setCell ⟨b,2,none⟩ c).setCell ⟨b,3,none⟩ a).setCell ⟨b,4,none⟩ d):=by
 obtain⟨o,h2⟩:=kJ (w.drewN n) b t i k l m g f e c a d h;exact⟨o,za.trans (b:=w.drewN n) kD h2 iL⟩
theorem Um{a b:Pl}(h:a≠b):(a.key.toList==b.key.toList)=false\/((a.key.toList==b.key.toList)=true/\(a.num==b.num)=false):=by
 by_cases c:a.key=b.key
 .refine .inr ⟨by rw [c];simp,?_⟩;have:¬a.num=b.num:=λe=>h (by cases a;cases b;simp only at c e;rw [c,e]);simpa using this
 .exact .inl (by have:=mt qP.1 c;simpa using this)
theorem Yx(w:World)(y bd:Nat)(S T:Nat->Prop)(D:Dk)(C:Ck)(h:Cw w y bd S T D C)(X:0<=D.reads)(au:D.reads<=4611686018427380000)(t:Nat)(ad:t<65536)(c:List En)(J:∀e∈c,e.Ok)(P:c.length<=6)(ae:yO c)(Y:C.look D t=zm (zc 5 c))(p:Pl)(u:∀aF:zt c p<c.length,c[zt c p].pl≠p):
 Calls Tryz.prog 141 #[.pointer (some ⟨y,0,none⟩),.int .i64 t,.agg #[.string p.key,.int .i64 p.num]] w λam w'=>am=.returned (.tuple #[.agg qz.toArray,.bool false,.bool false])/\(∃n:Int,0<=n/\n<=1/\Cw w' y bd S T {D with reads:=D.reads+n} C)/\za (λj=>j=bd) w w':=by
 have R:Hid _:=h;have av:=h.disk.lt bd h.disk.bdS;change Hid _ at J ae Y u;clear h;have B:Hid _:=Ul w p;unfold qz;go_enter Tryz.func141,Tryz.ntmps141;go_wp2_with fail;generalize ((w.alloc (.cells #[.string p.key,.int .i64 p.num] 107)).alloc (.cells #[.string ⟨#[]⟩,.int .i64 0,.bool false,.int .i64 0,.int .i64 0] 109))=ar at*;refine(yB ar y bd S T D C (R.kept0 B.kept) X (by omega) t ad 5 c (.inr rfl) J (λh=>absurd h (by decide)) P Y).mono ?_;rintro r k ⟨a,l,rfl,⟨aq,af,V,L⟩,q,m,G,N⟩;have ax:=B.size;have ao:=q.size;have s:Hid (k.heap[w.heap.size]? =_):=(q.block _ (by omega) (by omega)).trans B.pl;have O:Hid (k.heap[w.heap.size+1]? =_):=(q.block _ (by omega) (by omega)).trans B.res;change Hid _ at L q m;clear G N;have ak:k.cell? ⟨w.heap.size,0,none⟩=some (.string p.key):=cR s.out rfl;have ai:k.cell? ⟨w.heap.size,1,none⟩=some (.int .i64 p.num):=cR s.out rfl;have aj:w.heap.size<k.heap.size:=by omega
 go_wp2_with fail;have I:Hid (za (λ_=>False) k (k.alloc (.cells #[.int .u8 5,.slice a c.length l] 209))):=za.alloc _ _ _;have W:Hid ((k.alloc (.cells #[.int .u8 5,.slice a c.length l] 209)).heap[k.heap.size]? =some (.cells #[.int .u8 5,.slice a c.length l] 209 (0,0))):=ac k _;have az:(k.alloc (.cells #[.int .u8 5,.slice a c.length l] 209)).heap.size=k.heap.size+1:=by simp
 generalize (k.alloc (.cells #[.int .u8 5,.slice a c.length l] 209))=al at*;refine(jw al _ a l c (m.kept I nF) ae 5 p).mono ?_;rintro r f ⟨rfl,A⟩;have o:Hid (za (λ_=>False) k f):=I.trans A iL;have Q:Hid (f.heap[k.heap.size]? =_):=(A.block _ (by omega) id).trans W.out;have z:Hid (f.heap[w.heap.size]? =_):=(o.block _ (by omega) id).trans s.out;have d:Hid (f.heap[w.heap.size+1]? =_):=(o.block _ (by omega) id).trans O.out;have x:Hid (qg f (λb=>ar.heap.size<=b) a c):=m.kept o nF;clear A ak ai;have aG:f.cell? ⟨w.heap.size,0,none⟩=some (.string p.key):=cR z.out rfl;have aM:f.cell? ⟨w.heap.size,1,none⟩=some (.int .i64 p.num):=cR z.out rfl;have aC:f.cell? ⟨k.heap.size,1,none⟩=some (.slice a c.length l):=cR Q.out rfl;have aw:=xW c p
 have M:Hid (∀(E:World) (tmps:Array Value),E.heap[w.heap.size+1]? =some (.cells #[.string ⟨#[]⟩,.int .i64 0,.bool false,.int .i64 0,.int .i64 0] 109 (0,0))->za (λj=>j=w.heap.size+1) f E->tmps.getD 6 undef=.pointer (some ⟨w.heap.size+1,0,none⟩)->tmps.getD 7 undef=.bool false->tmps.getD 8 undef=.bool false->bodyPost Tryz.prog Tryz.f141 (λam w'=>am=.returned (.tuple #[.agg #[.string ⟨#[]⟩,.int .i64 0,.bool false,.int .i64 0,.int .i64 0],.bool false,.bool false])/\(∃n:Int,0<=n/\n<=1/\Cw w' y bd S T {D with reads:=D.reads+n} C)/\za (λj=>j=bd) w w') .ret {tmps:=tmps,defers:=[]} E):=by intro E tmps ag k3 ap an ah;refine bodyPost_ret (y5 rfl _ _ _ _ _ _ _ ap ag Tryz.underlying109 rfl (by kernel_rfl)) rfl ⟨by rw [an,ah],⟨aq,af,V,(L.kept0 o).kept k3 (λj F U=>by have:=R.disk.lt j F;omega) (λj F U=>by have:=R.chg.lt j F;omega)⟩,?_⟩;exact(((B.kept.mono fE).trans q iL).trans o fE).trans k3 (λj F=>.inr (by omega))
 have aL:f.cell? ⟨w.heap.size+1,0,none⟩=some (.string ⟨#[]⟩):=cR d.out rfl;have aP:f.cell? ⟨w.heap.size+1,1,none⟩=some (.int .i64 0):=cR d.out rfl;have aK:f.cell? ⟨w.heap.size+1,2,none⟩=some (.bool false):=cR d.out rfl;have aD:f.cell? ⟨w.heap.size+1,3,none⟩=some (.int .i64 0):=cR d.out rfl;have aQ:f.cell? ⟨w.heap.size+1,4,none⟩=some (.int .i64 0):=cR d.out rfl;have aN:=aa f (w.heap.size+1) 0 _ _ d.out;have aB:=aa f (w.heap.size+1) 1 _ _ d.out;have aH:=aa f (w.heap.size+1) 2 _ _ d.out;have aR:=aa f (w.heap.size+1) 3 _ _ d.out;have aI:=aa f (w.heap.size+1) 4 _ _ d.out;by_cases v:zt c p=c.length
 .have ab:(((zt c p:Nat):Int)==(c.length:Int))=true:=by rw [v];simp
  clear u;generalize zt c p=i at*;clear v;go_wp2_with fail;go_quiet (fail);go_wp2;exact M _ _ (jE f _ _ _ _ _ _ _ _ _ _ _ _ _ d).1 (jE f _ _ _ _ _ _ _ _ _ _ _ _ _ d).2 rfl rfl rfl
 .have K:zt c p<c.length:=by omega
  have ab:(((zt c p:Nat):Int)==(c.length:Int))=false:=beq_false_of_ne (by omega);have H:=u.out K;obtain⟨g,aS,rfl⟩:=x.base (by omega);obtain⟨U,aJ, -, -, -, -, -⟩:=x.cells (zt c p) K;have hap:=Um H;clear H u;generalize c[zt c p].pl.key=aO at*;generalize c[zt c p].pl.num=aE at*;generalize zt c p=i at*;have ay:(i:Int)<(c.length:Int):=by omega
  rcases hap with Z|⟨Z,aA⟩
  all_goals
   go_wp2_with fail;go_quiet (fail);go_wp2;exact M _ _ (jE f _ _ _ _ _ _ _ _ _ _ _ _ _ d).1 (jE f _ _ _ _ _ _ _ _ _ _ _ _ _ d).2 rfl rfl rfl
theorem Yy(w:World)(W bd:Nat)(S T:Nat->Prop)(D:Dk)(C:Ck)(h:Cw w W bd S T D C)(aT:0<=D.reads)(bG:D.reads<=4611686018427380000)(G:Nat)(aZ:G<65536)(c:List En)(ae:∀e∈c,e.Ok)(ay:c.length<=6)(aN:yO c)(aU:C.look D G=zm (zc 5 c))(p:Pl)(i:Nat)(aq:zt c p=i)(aF:i<c.length)(aj:c[i].pl=p)(bC:C.ws.length<700)(F:List En)(I:c.eraseIdx i=F)(s:Bool)(am:decide ((F.length:Int)<3)=s):
 Calls Tryz.prog 141 #[.pointer (some ⟨W,0,none⟩),.int .i64 G,.agg #[.string p.key,.int .i64 p.num]] w λa0 w'=>a0=.returned (.tuple #[.agg (qt c[i]).toArray,.bool s,.bool true])/\(∃(n:Int) (aX:Nat->Prop),0<=n/\n<=1/\Cw w' W bd S aX {D with reads:=D.reads+n} (C.put G (zm (zc 5 F)))/\∀j,aX j->T j\/w.heap.size<=j)/\za (λj=>j=bd\/T j) w w':=by
 have bA:Hid _:=h;have A:F.length=c.length-1:=by rw [<-I,iC aF]
 have aR:Hid (∀a0∈F,a0.Ok):=λa0 a6=>ae a0 (List.mem_of_mem_eraseIdx (by rw [I];exact a6));have bI:=h.disk.lt bd h.disk.bdS;have af:Hid _:=h.chg.lt;have au:Hid _:=h.disk.lt;change Hid _ at ae aN aU aq I am;clear h;have Z:Hid _:=Ul w p;obtain⟨z,az⟩:∃z,c[i]=z:=⟨_,rfl⟩;rw [az] at aj ⊢;have bE:(z.pl.key.toList==p.key.toList)=true:=by rw [aj];simp
 have bM:(z.pl.num==p.num)=true:=by rw [aj];simp
 change Hid _ at az;clear aj;unfold qt;go_enter Tryz.func141,Tryz.ntmps141;go_wp2_with fail;generalize ((w.alloc (.cells #[.string p.key,.int .i64 p.num] 107)).alloc (.cells #[.string ⟨#[]⟩,.int .i64 0,.bool false,.int .i64 0,.int .i64 0] 109))=bU at*;refine(yB bU W bd S T D C (bA.kept0 Z.kept) aT (by omega) G aZ 5 c (.inr rfl) ae (λh=>absurd h (by decide)) ay aU).mono ?_;rintro r b ⟨a,d,rfl,⟨bh,aP,aI,aw⟩,N,B,y,ab⟩;have bJ:=Z.size;have bf:=N.size;have Q:Hid (b.heap[w.heap.size]? =_):=(N.block _ (by omega) (by omega)).trans Z.pl;have aD:Hid (b.heap[w.heap.size+1]? =_):=(N.block _ (by omega) (by omega)).trans Z.res;obtain⟨g,bT,rfl⟩:=B.base (by omega)
 obtain rfl:bT=0:=by
  rcases y.2 with⟨bs,_⟩|⟨bX,bb,bD,aW,_⟩;.cases bs
  .simp only [Value.slice.injEq,ij,Addr.mk.injEq] at aW;exact aW.1.2.1
 have bS:=ab g rfl;have bL:=(y.lt g rfl).2;change Hid _ at aw N B y;clear ab;have a9:b.cell? ⟨w.heap.size,0,none⟩=some (.string p.key):=cR Q.out rfl;have bo:b.cell? ⟨w.heap.size,1,none⟩=some (.int .i64 p.num):=cR Q.out rfl;have bq:w.heap.size<b.heap.size:=by omega
 go_wp2_with fail;have ap:Hid (za (λ_=>False) b (b.alloc (.cells #[.int .u8 5,.slice (some ⟨g,0,none⟩) c.length d] 209))):=za.alloc _ _ _;have aS:Hid ((b.alloc (.cells #[.int .u8 5,.slice (some ⟨g,0,none⟩) c.length d] 209)).heap[b.heap.size]? =some (.cells #[.int .u8 5,.slice (some ⟨g,0,none⟩) c.length d] 209 (0,0))):=ac b _;have bR:(b.alloc (.cells #[.int .u8 5,.slice (some ⟨g,0,none⟩) c.length d] 209)).heap.size=b.heap.size+1:=by simp
 generalize (b.alloc (.cells #[.int .u8 5,.slice (some ⟨g,0,none⟩) c.length d] 209))=ba at*;refine(jw ba _ _ d c (B.kept ap nF) aN 5 p).mono ?_;rintro r m ⟨rfl,U⟩;rw [aq.out];have L:Hid (za (λ_=>False) b m):=ap.trans U iL;have bg:=U.size;have P:Hid (m.heap[b.heap.size]? =_):=(U.block _ (by omega) id).trans aS.out;have Y:Hid (m.heap[w.heap.size]? =_):=(L.block _ (by omega) id).trans Q.out;have l:Hid (m.heap[w.heap.size+1]? =_):=(L.block _ (by omega) id).trans aD.out;have aE:Hid _:=B.kept L nF;clear U a9 bo;have bm:m.cell? ⟨w.heap.size,0,none⟩=some (.string p.key):=cR Y.out rfl;have bc:m.cell? ⟨w.heap.size,1,none⟩=some (.int .i64 p.num):=cR Y.out rfl;have a4:m.cell? ⟨b.heap.size,0,none⟩=some (.int .u8 5):=cR P.out rfl;have bk:m.cell? ⟨b.heap.size,1,none⟩=some (.slice (some ⟨g,0,none⟩) c.length d):=cR P.out rfl;have E:=aE.cells i aF;rw [az.out] at E;simp only [eT] at E;obtain⟨V,a8,bl,bz,bn, -, -⟩:=E;have bH:((i:Int)==(c.length:Int))=false:=beq_false_of_ne (by omega);have bP:(i:Int)<(c.length:Int):=by omega
 have br:m.cell? ⟨w.heap.size+1,0,none⟩=some (.string ⟨#[]⟩):=cR l.out rfl;have bu:m.cell? ⟨w.heap.size+1,1,none⟩=some (.int .i64 0):=cR l.out rfl;have bp:m.cell? ⟨w.heap.size+1,2,none⟩=some (.bool false):=cR l.out rfl;have a3:m.cell? ⟨w.heap.size+1,3,none⟩=some (.int .i64 0):=cR l.out rfl;have bw:m.cell? ⟨w.heap.size+1,4,none⟩=some (.int .i64 0):=cR l.out rfl;have bt:=aa m (w.heap.size+1) 0 _ _ l.out;have bj:=aa m (w.heap.size+1) 1 _ _ l.out;have a5:=aa m (w.heap.size+1) 2 _ _ l.out;have bB:=aa m (w.heap.size+1) 3 _ _ l.out;have a7:=aa m (w.heap.size+1) 4 _ _ l.out;have bO:¬b.heap.size=w.heap.size+1:=by omega
 go_wp2_with fail;go_quiet (fail);go_wp2_with fail;obtain⟨ao,J⟩:=jE m nq (w.heap.size+1) 109 _ _ _ _ _ (.string z.pl.key) (.int .i64 z.pl.num) (.bool z.mark) (.int .i64 (z.size:Int)) (.int .i64 (z.at_:Int)) l.out;change Hid _ at ao J;clear br bu bp a3 bw bt bj a5 bB a7 V a8 bl bz bn bm bc a4 bk;generalize ((((((m.drewN nq).setCell ⟨w.heap.size+1,0,none⟩ (.string z.pl.key)).setCell ⟨w.heap.size+1,1,none⟩ (.int .i64 z.pl.num)).setCell ⟨w.heap.size+1,2,none⟩ (.bool z.mark)).setCell ⟨w.heap.size+1,3,none⟩ (.int .i64 (z.size:Int))).setCell ⟨w.heap.size+1,4,none⟩ (.int .i64 (z.at_:Int)))=X at*;have bN:=J.size;have aQ:Hid _:=J.owns (L.owns y nF) (λj f V=>by simp [Value.ownBlock] at f;omega);have aC:Hid (X.heap[b.heap.size]? =_):=(J.block _ (by omega) (by omega)).trans P.out;refine(gd X g c.length d c rfl aQ i aF (by omega)).mono ?_;rintro r t ⟨rfl,ag,M⟩;rw [I.out] at ag;have aY:Hid (za (λj=>j=g) X t):=M;have bF:=M.size;have aH:Hid (t.heap[w.heap.size+1]? =_):=(M.block _ (by omega) (by omega)).trans ao.out;have H:Hid (t.heap[b.heap.size]? =_):=(M.block _ (by omega) (by omega)).trans aC.out;change Hid _ at ag;clear M;have bx:t.cell? ⟨b.heap.size,0,none⟩=some (.int .u8 5):=cR H.out rfl;have bv:t.cell? ⟨b.heap.size,1,none⟩=some (.slice (some ⟨g,0,none⟩) c.length d):=cR H.out rfl;have bi:=aa t b.heap.size 1 _ _ H.out;go_wp2_with fail;have aV:Hid ((t.setCell ⟨b.heap.size,1,none⟩ (.slice (some ⟨g,0,none⟩) (c.length-1) d)).heap[b.heap.size]? =some (.cells #[.int .u8 5,.slice (some ⟨g,0,none⟩) (c.length-1) d] 209 (0,0))):=heap_setCell_same t b.heap.size 1 _ _ _ H.out;have R:Hid (za (λj=>j=b.heap.size) t (t.setCell ⟨b.heap.size,1,none⟩ (.slice (some ⟨g,0,none⟩) (c.length-1) d))):=za.setCell (S:=λj=>j=b.heap.size) t ⟨b.heap.size,1,none⟩ _ rfl;generalize (t.setCell ⟨b.heap.size,1,none⟩ (.slice (some ⟨g,0,none⟩) (c.length-1) d))=ai at*;clear bx bv bi;have bQ:=R.size;have ax:Hid (ai.heap[w.heap.size+1]? =_):=(R.block _ (by omega) (by omega)).trans aH.out;have aO:Hid _:=R.owns ag (λj f V=>by simp [Value.ownBlock] at f;omega)
 have aK:Hid (qg ai (λj=>j=g) (some ⟨g,0,none⟩) F):=by have:=aO.out;rw [<-A] at this;exact qg.of_own this (λj f=>by simp [Value.ownBlock] at f;exact f.symm) (by omega)
 have ah:Hid (za (λj=>w.heap.size<=j) b ai):=(((L.mono fE).trans J (λj f=>.inl (by omega))).trans aY (λj f=>.inl (by omega))).trans R (λj f=>.inl (by omega));have aL:Hid _:=aw.kept ah (λj f aB=>by have:=au.out j f;omega) (λj f aB=>by have:=af.out j f;omega);have aA:Hid _:=((Z.kept.mono fE).trans N iL).trans ah (λj f=>.inr f);refine(vh ai W bd S T _ C aL _ _ d 5 (.inr rfl) F aK aR (by omega) G (by omega) _ A).mono ?_;rintro r x ⟨rfl,⟨be,ar,ad⟩,K⟩;have bK:=K.size;have al:Hid (∀j,w.heap.size<=j->¬T j):=λj f aB=>by have:=af.out j aB;omega
 have q:Hid (x.heap[w.heap.size+1]? =_):=(K.block _ (by omega) (al _ (by omega))).trans ax.out;have O:Hid (x.heap[b.heap.size]? =_):=(K.block _ (by omega) (al _ (by omega))).trans aV.out;change Hid _ at ar ad K
 have aG:Hid (∀u,Calls Tryz.prog 182 #[.agg #[.int .u8 5,.slice (some ⟨g,0,none⟩) (c.length-1) d]] u λe w'=>e=.returned (.bool s)/\za (λ_=>False) u w'):=λu=>by have:=Zj u 5 (.inr rfl) (some ⟨g,0,none⟩) (c.length-1) d;rw [<-A,am.out] at this;rw [<-A];exact this
 have aM:Hid (∀u,za (λ_=>False) x u->u.heap[w.heap.size+1]? =some (.cells #[.string z.pl.key,.int .i64 z.pl.num,.bool z.mark,.int .i64 (z.size:Int),.int .i64 (z.at_:Int)] 109 (0,0))/\u.heap[b.heap.size]? =some (.cells #[.int .u8 5,.slice (some ⟨g,0,none⟩) (c.length-1) d] 209 (0,0))):=λu k=>⟨(k.block _ (by omega) id).trans q,(k.block _ (by omega) id).trans O⟩;have bY:x.cell? ⟨w.heap.size+1,0,none⟩=some (.string z.pl.key):=cR q.out rfl;have b3:x.cell? ⟨w.heap.size+1,1,none⟩=some (.int .i64 z.pl.num):=cR q.out rfl;have b5:x.cell? ⟨w.heap.size+1,2,none⟩=some (.bool z.mark):=cR q.out rfl;have b6:x.cell? ⟨w.heap.size+1,3,none⟩=some (.int .i64 (z.size:Int)):=cR q.out rfl;have b2:x.cell? ⟨w.heap.size+1,4,none⟩=some (.int .i64 (z.at_:Int)):=cR q.out rfl;have b7:x.cell? ⟨b.heap.size,0,none⟩=some (.int .u8 5):=cR O.out rfl;have bV:x.cell? ⟨b.heap.size,1,none⟩=some (.slice (some ⟨g,0,none⟩) (c.length-1) d):=cR O.out rfl;go_wp2_with fail
 go_region_law (go_simp;go_at_call 182;refine(aG x.drew).mono ?_;rintro r v ⟨rfl,an⟩;have av:Hid _:=(za.drew (λ_=>False) x).trans an iL;have o:=(aM v av).1;have u0:v.cell? ⟨w.heap.size+1,0,none⟩=some (.string z.pl.key):=(cR o rfl);have u1:v.cell? ⟨w.heap.size+1,1,none⟩=some (.int .i64 z.pl.num):=(cR o rfl);have u2:v.cell? ⟨w.heap.size+1,2,none⟩=some (.bool z.mark):=(cR o rfl);have u3:v.cell? ⟨w.heap.size+1,3,none⟩=some (.int .i64 (z.size:Int)):=(cR o rfl);have u4:v.cell? ⟨w.heap.size+1,4,none⟩=some (.int .i64 (z.at_:Int)):=(cR o rfl);have bZ:=aa v (w.heap.size+1) 0 _ _ o;have bW:=aa v (w.heap.size+1) 1 _ _ o;have b4:=aa v (w.heap.size+1) 2 _ _ o;have b0:=aa v (w.heap.size+1) 3 _ _ o;have b1:=aa v (w.heap.size+1) 4 _ _ o;change Hid _ at o;clear an;dsimp only)
 all_goals
  go_wp2;obtain⟨a2,aJ⟩:=kJ v (w.heap.size+1) 109 _ _ _ _ _ (.string z.pl.key) (.int .i64 z.pl.num) (.bool z.mark) (.int .i64 (z.size:Int)) (.int .i64 (z.at_:Int)) o.out;have ak:=(av.mono (S':=λj=>j=w.heap.size+1) fE).trans aJ iL;refine bodyPost_ret (y5 rfl _ _ _ _ _ _ _ rfl a2 Tryz.underlying109 rfl (by kernel_rfl)) rfl ⟨rfl,⟨bh,be,aP,aI,ar.kept ak (λj f V=>?_) (λj f V=>?_),λj f=>(ad j f).imp id (λh=>by omega)⟩,?_⟩;.have:=au.out j f;omega
  .rcases ad j f with a1|a1;.have:=af.out j a1;omega
   .omega
  .exact((aA.mono iL).trans K (λ_ h=>.inl (.inr h))).trans ak (λj f=>.inr (by omega))
end prog
end Go.Proofs.YtcoengihaobddaaGreatDoor

/- Part 28 of 36 of a proof: Rem6, Rem7 -/
import Derived.Test.YtcoengihaobddaaGreatDoorJb27
set_option maxHeartbeats 8000000
set_option linter.unusedVariables false
set_option linter.unusedSimpArgs false
set_option maxRecDepth 8000
namespace Go.Proofs.YtcoengihaobddaaGreatDoor
namespace prog
open Go.ChangeShapes Go.WideShapes Go.ChangeAt Go.RowKit disk ref
open keys (zh zd zx zq)
structure Zl (bc bd:Nat) (S:Nat->Prop) (D:Dk) (C:Ck) (es:List En) (c:Nat) (es2:List En) (C2:Ck):Prop where
 go:∀(w:World) (T:Nat->Prop) (r:Int) (g cap:Nat),0<=r->r<=4611686018427380000->Cw w bc bd S T {D with reads:=r} C->w.ownsRow 0 109 5 (.slice (some ⟨g,0,none⟩) es.length cap) es.length (zj es)->¬S g->¬T g->
  Calls Tryz.prog 180 #[.agg #[.int .u8 4,.slice (some ⟨g,0,none⟩) es.length cap],.pointer (some ⟨bc,0,none⟩),.int .i64 c] w λx w'=>x=.returned (.agg #[.int .u8 4,.slice (some ⟨g,0,none⟩) es2.length cap])/\w'.ownsRow 0 109 5 (.slice (some ⟨g,0,none⟩) es2.length cap) es2.length (zj es2)/\(∃(n:Int) (T':Nat->Prop),0<=n/\n<=3/\Cw w' bc bd S T' {D with reads:=r+n} C2/\∀j,T' j->T j\/w.heap.size<=j)/\za (λj=>j=bd\/T j\/j=g) w w'
theorem Zl.reads{e bd:Nat}{S:Nat->Prop}{D:Dk}{C:Ck}{b:List En}{c:Nat}{a:List En}{d:Ck}(h:Zl e bd S D C b c a d)(r:Int):Zl e bd S {D with reads:=r} C b c a d:=⟨h.go⟩
theorem KH(w:World)(b:Option Addr)(n a:Nat)(e:List Value)(f:w.ownsRow 0 109 5 (.slice b n a) n e)(d m h:Nat)(c:List En)(q:c.length=m)(h2:w.ownsRow 0 109 5 (.slice (some ⟨d,0,none⟩) m h) m (zj c))(s:1<=m)(t:n<=1000)(r:m<=1000):
 ∃g i w',(Xs #[.slice b n a,.slice (some ⟨d,0,none⟩) m h]).run Tryz.prog w=.ok (.slice (some ⟨g,0,none⟩) (n+m) i) w'/\w'.ownsRow 0 109 5 (.slice (some ⟨g,0,none⟩) (n+m) i) (n+m) (e++zj c)/\w.grownBy w' (Value.slice b n a).ownBlock/\((Value.slice b n a).ownBlock=some g\/g=w.heap.size)/\g<w'.heap.size:=by
 obtain⟨p,j,l,o,k⟩:=eZ Tryz.infoEntry;exact run_append_lies (P:=Tryz.prog) (w:=w) 207 207 0 109 p _ 5 48 Tryz.underlying207 j l o k rfl (by omega) (.slice b n a) n e f ⟨d,0,none⟩ m h (zj c) (by rw [yh,q]) (h2.cells (g:=d) rfl) (ke _) (by omega) (by unfold maxLen;omega) (by omega) (aj _) _ rfl
structure Do (b bd k n1 cap1 m cap2:Nat) (a1:Option Addr) (ev eu:List En) (w2:World) (g2 g3 cp:Nat) (w3 W4:World):Prop where
 c0:w2.cell? ⟨b,0,none⟩=some (.int .u8 (k:Int))
 c1:w2.cell? ⟨b,1,none⟩=some (.slice a1 n1 cap1)
 lt:b<w2.heap.size
 run:(Xs #[.slice a1 n1 cap1,.slice (some ⟨g2,0,none⟩) m cap2]).run Tryz.prog w2=.ok (.slice (some ⟨g3,0,none⟩) (n1+m) cp) w3
 d1:w3.cell? ⟨b,1,none⟩=some (.slice a1 n1 cap1)
 df:w3.frozen? ⟨b,1,none⟩=false
 w4:w3.setCell ⟨b,1,none⟩ (.slice (some ⟨g3,0,none⟩) (n1+m) cp)=W4
 blk:W4.heap[b]? =some (.cells #[.int .u8 (k:Int),.slice (some ⟨g3,0,none⟩) (n1+m) cp] 209 (0,0))
 own:W4.ownsRow 0 109 5 (.slice (some ⟨g3,0,none⟩) (n1+m) cp) (n1+m) (zj (eu++ev))
 kept:za (λj=>j=b\/(Value.slice a1 n1 cap1).ownBlock=some j) w2 W4
 at_:(Value.slice a1 n1 cap1).ownBlock=some g3\/g3=w2.heap.size
 cap:n1+m<=cp/\cp<=9223372036854775807
theorem GJ{v B:World}{b bd k d a m f:Nat}{r E:Option Addr}{q n:List En}(L:v.heap[b]? =some (.cells #[.int .u8 (k:Int),.slice r d a] 209 (0,0)))(y:v.ownsRow 0 109 5 (.slice r d a) d (zj q))(s:∀j,(Value.slice r d a).ownBlock=some j->j≠b/\j≠bd/\j<v.heap.size)(H:b≠bd)(R:za (λj=>j=bd) v.drew B)
 (h2:B.ownsRow 0 109 5 (.slice E m f) m (zj n)) (T:n.length=m) (K:1<=m) (X:d<=6) (V:m<=6):∃e,E=some ⟨e,0,none⟩/\∃o z l Q,Do b bd k d a m f r n q B e o z l Q:=by
 have I:=(lT L);have D:=((za.drew (λ_=>False) v).mono fE).trans R iL;have i:=(D.block b I H).trans L;have p:=(lT i);have O:=D.owns y (λj t=>(s j t).2.1)
 obtain⟨e,rfl⟩:∃e,E=some ⟨e,0,none⟩:=by
  rcases h2.2 with⟨_,Z⟩|⟨g,c,M,x,_⟩;.omega
  .simp only [Value.slice.injEq] at x;exact⟨g,x.1⟩
 obtain⟨o,z,l,F,u,A,C,Y⟩:=KH B r d a (zj q) O e m f n T h2 K (by omega) (by omega);have G:=za.grown A (λj t=>t);have w:=(G.block b p (λP=>(s b P).1 rfl)).trans i;have J:=za.setCell (S:=λj=>j=b) l ⟨b,1,none⟩ (.slice (some ⟨o,0,none⟩) (d+m) z) rfl
 have W:o≠b:=by
  rcases C with h|h;.exact(s o h).1
  .omega
 have N:zj (q++n)=zj q++zj n:=by simp [zj]
 refine⟨e,rfl,o,z,l,_,cR i rfl,cR i rfl,p,F,cR w rfl,aa l b 1 _ _ w,rfl,heap_setCell_same l b 1 _ _ _ w,?_,(G.mono (λ_ h=>.inr h)).trans J (λ_ h=>.inl (.inl h)),C,?_⟩
 .rw [N];exact J.owns u (λj t ab=>by simp [Value.ownBlock] at t;omega)
 .rcases u.2 with⟨y,h2⟩|⟨ad,U,M,x,_,ac,y,h2,_⟩;.cases y
  .cases x;unfold maxLen at h2;omega
theorem U8{w:World}{g n c:Nat}{a:List En}(j:a.length=n)(h:w.ownsRow 0 109 5 (.slice (some ⟨g,0,none⟩) n c) n (zj a))(i:Nat)(u:i<a.length)(k:ByteArray)(f:Int):
 ((w.setCell ⟨g,i*5,none⟩ (.string k)).setCell ⟨g,i*5+1,none⟩ (.int .i64 f)).ownsRow 0 109 5 (.slice (some ⟨g,0,none⟩) n c) n (zj (a.set i ⟨⟨k,f⟩,a[i].mark,a[i].size,a[i].at_⟩)):=by
 rcases h.2 with⟨x,_⟩|⟨C,v,b,p,m,l,q,h2,D,y⟩;.cases x
 .cases p;have B:a=a.take i++a[i]::a.drop (i+1):=by rw [<-aI,aE]
  have t:zj a=zj (a.take i)++(qr a[i]++zj (a.drop (i+1))):=by
   conv=>lhs;rw [B]
   rw [qQ,xJ]
  have d:(zj (a.take i)).length=i*5:=by rw [yh,aC];congr 1;omega
  have e:zj (a.set i ⟨⟨k,f⟩,a[i].mark,a[i].size,a[i].at_⟩)=(zj a).take (i*5)++[.string k,.int .i64 f]++(zj a).drop (i*5+2):=by
   rw [hE,aB u,qQ,xJ,t];generalize zj (a.take i)=A at*;have z:(A++(qr a[i]++zj (a.drop (i+1)))).take (i*5)=A:=by rw [<-d];exact iE
   have r:(A++(qr a[i]++zj (a.drop (i+1)))).drop (i*5+2)=(qr a[i]++zj (a.drop (i+1))).drop 2:=by rw [<-d];exact iW _
   rw [z,r];simp [qr]
  have s:i*5+[Value.string k,Value.int .i64 f].length<=b.size:=by simp only [ae,hO];omega
  have o:=z9 g 109 [.string k,.int .i64 f] (i*5) w b l s;refine⟨by rw [yh,ew,j],.inr ⟨g,c,_,rfl,m,o,q,h2,?_,?_⟩⟩
  .simp;omega
  .show (b.toList.take (i*5)++[Value.string k,Value.int .i64 f]++b.toList.drop (i*5+2)).take (n*5)=_;rw [e,<-y];rw [mz,an (by simp;omega)];congr 1;.rw [iu,a8 (by omega)]
   .rw [ml];congr 1;simp;omega
section
attribute [local go_sem ↓] dl
theorem Yw(E bd:Nat)(S:Nat->Prop)(D:Dk)(C:Ck)(m:List UInt8)(cY:qF (C.look D 2) m)(b:List En)(dh:b.length<=6)(c r:Nat)(dc:max c 1=r)(an:r<b.length)(B i:Nat)(bm:b[r-1].at_=B)(bQ:b[r].at_=i+21)(b8:B<65536)(ce:B≠2)(dq:i<979)(k:Nat)(bc:k=4\/k=5)(d f:List En)(aR:∀e∈d,e.Ok)(br:∀e∈f,e.Ok)(bt:k=4->∀e∈d,e.mark=false/\e.size=0)(bB:k=4->∀e∈f,e.mark=false/\e.size=0)(bV:d.length<=6)(bA:f.length<=6)(da:1<=f.length)(bJ:C.look D B=zl (zc k d))(b1:C.look D ((i+21:Nat):Int)=zl (zc k f))(dP:C.ws.length<800)
 (W:List En) (aC:Ck) (U:((d++f).length<=6/\W=b.eraseIdx r/\aC=(C.put B (zl (zc k (d++f)))).free m i)\/(6<(d++f).length/\W=b.set r ⟨((d++f).getD ((d++f).length/2) gR).pl,b[r].mark,b[r].size,b[r].at_⟩/\aC=(C.put B (zl (zc k ((d++f).take ((d++f).length/2))))).put (i+21) (zl (zc k ((d++f).drop ((d++f).length/2)))))):
 Zl E bd S D C b c W aC:=by
 refine⟨λw T A g o cO ed Y aj bi bL=>?_⟩;obtain⟨q,rfl⟩:∃q,r=q+1:=⟨r-1,by omega⟩;have dO:Hid (Cw w E bd S T {D with reads:=A} C):=Y;have du:Hid (qF (C.look D 2) m):=cY;have dl:Hid (w.ownsRow 0 109 5 (.slice (some ⟨g,0,none⟩) b.length o) b.length (zj b)):=aj;have c6:Hid (∀e∈d,e.Ok):=aR;have cW:Hid (∀e∈f,e.Ok):=br;have df:Hid (k=4->∀e∈d,e.mark=false/\e.size=0):=bt;have cI:Hid (k=4->∀e∈f,e.mark=false/\e.size=0):=bB;have cx:Hid (C.look D B=zl (zc k d)):=bJ;have c8:Hid (C.look D ((i+21:Nat):Int)=zl (zc k f)):=b1;have d9:bd<w.heap.size:=Y.disk.lt bd Y.disk.bdS;have aK:Hid (∀j,T j->j<w.heap.size):=Y.chg.lt;have a4:Hid (∀j,S j->j<w.heap.size):=Y.disk.lt;have bw:=(aj.lt g rfl).2;have b0:Hid (¬S g):=bi;have ad:Hid (¬T g):=bL;have cn:g≠bd:=λe=>bi (by rw [e];exact Y.disk.bdS);have ct:Hid (max c 1=q+1):=dc
 have bC:Hid (w.cell? ⟨g,q*5+4,none⟩=some (.int .i64 (B:Int))/\w.cell? ⟨g,(q+1)*5+4,none⟩=some (.int .i64 ((i:Int)+21))):=by have c0:qe w (λ_=>True) (some ⟨g,0,none⟩) b:=qe.of_own aj (λ_ _=>eI) (by omega);obtain⟨-, -, -, -, a0, -⟩:=c0.cells q (by omega);obtain⟨-, -, -, -, bg, -⟩:=c0.cells (q+1) an;simp only [Nat.add_sub_cancel] at bm;rw [bm] at a0;rw [bQ] at bg;simp only [eT] at a0 bg;exact⟨a0,by rw [bg];simp⟩
 change Hid _ at U;clear Y cY aj aR br bt bB bJ b1 bi bL dc bm bQ;have ax:Hid (za (λ_=>False) w ((w.alloc (.cells #[.int .u8 4,.slice (some ⟨g,0,none⟩) b.length o] 209)).alloc (.cells #[.int .u8 0,.slice none 0 0] 209))):=za.alloc2 _ _ _;have bX:Hid (((w.alloc (.cells #[.int .u8 4,.slice (some ⟨g,0,none⟩) b.length o] 209)).alloc (.cells #[.int .u8 0,.slice none 0 0] 209)).heap[w.heap.size]? =some (.cells #[.int .u8 4,.slice (some ⟨g,0,none⟩) b.length o] 209 (0,0))):=((za.alloc (λ_=>False) _ _).block w.heap.size (by simp) id).trans (ac w _);have cT:Hid (((w.alloc (.cells #[.int .u8 4,.slice (some ⟨g,0,none⟩) b.length o] 209)).alloc (.cells #[.int .u8 0,.slice none 0 0] 209)).heap[w.heap.size+1]? =some (.cells #[.int .u8 0,.slice none 0 0] 209 (0,0))):=eF w _ _;have d6:((w.alloc (.cells #[.int .u8 4,.slice (some ⟨g,0,none⟩) b.length o] 209)).alloc (.cells #[.int .u8 0,.slice none 0 0] 209)).heap.size=w.heap.size+2:=by simp
 go_enter Tryz.func180,Tryz.ntmps180;go_wp2_with fail
 case' inl=>
  have e:(Value.int .i64 1)=.int .i64 ((q:Int)+1):=by have:=ct.out;congr 1;omega
  conv=>arg 4;rw [e]
  clear e
 case' inr=>
  have e:(Value.int .i64 (c:Int))=.int .i64 ((q:Int)+1):=by have:=ct.out;congr 1;omega
  conv=>arg 4;rw [e]
  clear e
 all_goals
  clear h;generalize ((w.alloc (.cells #[.int .u8 4,.slice (some ⟨g,0,none⟩) b.length o] 209)).alloc (.cells #[.int .u8 0,.slice none 0 0] 209))=ay at*;have cv:ay.cell? ⟨w.heap.size,1,none⟩=some (.slice (some ⟨g,0,none⟩) b.length o):=cR bX.out rfl;have cG:ay.cell? ⟨g,q*5+4,none⟩=some (.int .i64 (B:Int)):=(ax.cell (a:=⟨g,q*5+4,none⟩) bw id).trans bC.1;have cM:ay.cell? ⟨g,(q+1)*5+4,none⟩=some (.int .i64 ((i:Int)+21)):=(ax.cell (a:=⟨g,(q+1)*5+4,none⟩) bw id).trans bC.2;have dX:(q:Int)+1<(b.length:Int):=by omega
  have dR:(q:Int)<(b.length:Int):=by omega
  have dB:(0:Int)<=(q:Int)+1:=by omega
  have ea:IntKind.i64.wrap ((q:Int)+1-1)=(q:Int):=by rw [Int.add_sub_cancel];exact IntWalk.i64_in _ (by omega)
  have dZ:IntKind.i64.wrap (q:Int)=(q:Int):=IntWalk.i64_in _ (by omega);go_region_held3 (λw'=>w'.cell? ⟨w.heap.size,1,none⟩=some (.slice (some ⟨g,0,none⟩) b.length o)/\w'.cell? ⟨g,q*5+4,none⟩=some (.int .i64 (B:Int))/\w'.cell? ⟨g,(q+1)*5+4,none⟩=some (.int .i64 ((i:Int)+21))) (go_keep) (fail);have cz:Hid (Cw ay.drew E bd S T {D with reads:=A} C):=(dO.kept0 ax).kept0 (za.drew _ ay)
  have bT:Hid (∀(u:World) (ap:Int),0<=ap->ap<=1->Cw u E bd S T {D with reads:=A+ap} C->Calls Tryz.prog 174 #[.iface 142 (.pointer (some ⟨E,0,none⟩)),.int .i64 ((i:Int)+21)] u λe w'=>∃bo V,e=.returned (.agg #[.int .u8 (k:Int),.slice bo f.length V])/\(∃n:Int,0<=n/\n<=1/\Cw w' E bd S T {D with reads:=A+ap+n} C)/\za (λi=>i=bd) u w'/\w'.ownsRow 0 109 5 (.slice bo f.length V) f.length (zj f)):=λu ap c9 F aR=>by have:=yy u E bd S T {D with reads:=A+ap} C aR (by show 0<=A+ap;omega) (by show A+ap<=_;omega) (i+21) (by omega) k f bc cW cI bA (by rw [zF];exact c8);rw [show ((i+21:Nat):Int)=(i:Int)+21 from by omega] at this;exact this.mono (λe w' ⟨bo,V,dM,dt,dx,_,dK,_⟩=>⟨bo,V,dM,dt,dx,dK⟩)
  go_wp2_with fail;refine(yy ay.drew E bd S T {D with reads:=A} C cz cO (by show A<=_;omega) B b8 k d bc c6 df bV (by rw [zF];exact cx)).mono ?_;rintro cu p ⟨Z,x,rfl,⟨H,cd,cm,bY⟩,a3,bn,ak,aW⟩;have bW:Hid (Cw p E bd S T {D with reads:=A+H} C):=bY;have ee:ay.heap.size<=p.heap.size:=a3.size;have bl:Hid (za (λj=>j=bd) ay p):=((za.drew (λ_=>False) ay).mono fE).trans a3 iL;have bN:Hid (p.ownsRow 0 109 5 (.slice Z d.length x) d.length (zj d)):=ak;have bb:Hid (∀j,(Value.slice Z d.length x).ownBlock=some j->ay.heap.size<=j/\j<p.heap.size):=λj l=>⟨aW j l,(ak.lt j l).2⟩;clear bY a3 bn ak aW cv cG cM;go_wp2_with fail;have aM:Hid (za (λ_=>False) p (p.alloc (.cells #[.int .u8 (k:Int),.slice Z d.length x] 209))):=za.alloc _ _ _;have aL:Hid ((p.alloc (.cells #[.int .u8 (k:Int),.slice Z d.length x] 209)).heap[p.heap.size]? =some (.cells #[.int .u8 (k:Int),.slice Z d.length x] 209 (0,0))):=ac p _;have dY:(p.alloc (.cells #[.int .u8 (k:Int),.slice Z d.length x] 209)).heap.size=p.heap.size+1:=by simp
  generalize (p.alloc (.cells #[.int .u8 (k:Int),.slice Z d.length x] 209))=aD at*;have bE:Hid (Cw aD.drew E bd S T {D with reads:=A+H} C):=(bW.kept0 aM).kept0 (za.drew _ aD);have dU:aD.cell? ⟨p.heap.size,1,none⟩=some (.slice Z d.length x):=cR aL.out rfl;have di:=aa aD p.heap.size 1 _ _ aL.out;have cD:∀(w:World) (bq af:Nat),(Instr.field 209 (.agg #[.int .u8 (k:Int),.slice (some ⟨bq,0,none⟩) f.length af]) 1).run Tryz.prog w=.ok (.slice (some ⟨bq,0,none⟩) f.length af) w:=λ_ _ _=>by kernel_rfl
  go_region_law (go_simp;go_at_call 174;refine(bT _ H cd cm (by exact bE)).mono ?_;rintro cu a8 ⟨eh,af,rfl,⟨L,dL,dW,bP⟩,aT,aO⟩;have ae:Hid (Cw a8 E bd S T {D with reads:=A+H+L} C):=bP;have a6:Hid (za (λj=>j=bd) aD.drew a8):=aT;obtain⟨bq,rfl,I,M,dC,t,Q⟩:=GJ (bd:=bd) aL (aM.owns bN nF) (λj l=>by have:=bb.out j l;omega) (by omega) aT aO rfl da bV bA;have K:Hid (Do p.heap.size bd k d.length x f.length af Z f d a8 bq I M dC t):=Q;have bp:=Q.c0;have a0:=Q.c1;have bg:=Q.lt;have dJ:=Q.run;have dI:=Q.d1;have dk:=Q.df;clear bP aT aO Q;dsimp only)
 all_goals
  rw [K.w4];have bs:Hid (t.heap[p.heap.size]? =_):=K.blk;have ec:aD.heap.size<=a8.heap.size:=a6.size;have d1:=K.kept.size;have aB:Hid (∀j,(Value.slice Z d.length x).ownBlock=some j->ay.heap.size<=j/\j<p.heap.size):=bb.out;have bh:Hid (za (λj=>j=bd) ay a8):=((bl.trans aM fE).trans (za.drew (λ_=>False) aD) fE).trans a6 iL
  have aS:Hid (∀j,j<ay.heap.size->¬(j=p.heap.size\/(Value.slice Z d.length x).ownBlock=some j)):=λj l s=>by
   rcases s with h|h;.omega
   .have:=aB.out j h;omega
  have ai:Hid (za (λj=>j=bd\/ay.heap.size<=j) ay t):=(bh.mono iL).trans K.kept (λj l=>.inl (.inr (by
   rcases l with h|h;.omega
   .exact(aB j h).1)))
  have cU:Hid (Cw t E bd S T {D with reads:=A+H+L} C):=ae.kept K.kept (λj l s=>aS j (by have:=a4.out j l;omega) s) (λj l s=>aS j (by have:=aK.out j l;omega) s)
  have co:Hid (ay.heap.size<=I/\I≠p.heap.size):=by
   rcases K.at_ with h|h;.have:=aB.out I h;exact⟨this.1,by omega⟩
   .exact⟨by omega,by omega⟩
  have c1:Hid (t.ownsRow 0 109 5 (.slice (some ⟨I,0,none⟩) (d.length+f.length) M) (d.length+f.length) (zj (d++f))):=K.own;have bR:Hid (d.length+f.length<=M/\M<=9223372036854775807):=K.cap;have b9:Hid (t.heap[w.heap.size]? =_):=(ai.block _ (by omega) (by omega)).trans bX.out;have ci:Hid (t.heap[w.heap.size+1]? =_):=(ai.block _ (by omega) (by omega)).trans cT.out;have cw:Hid (t.ownsRow 0 109 5 (.slice (some ⟨g,0,none⟩) b.length o) b.length (zj b)):=ai.owns (ax.owns dl nF) (λj l s=>by simp [Value.ownBlock] at l;omega);clear bp a0 bg dJ dI dk dU di cD;have cQ:t.cell? ⟨p.heap.size,0,none⟩=some (.int .u8 (k:Int)):=cR bs.out rfl;have c5:t.cell? ⟨p.heap.size,1,none⟩=some (.slice (some ⟨I,0,none⟩) (d.length+f.length) M):=cR bs.out rfl
  have cq:Hid (((room k:Nat):Int)=6):=by show ((room k:Nat):Int)=6;rcases bc with rfl|rfl<;>decide
  have av:k<=6:=by omega
  have d8:p.heap.size<t.heap.size:=by omega
  clear K a6 ae aM aL bE bT bW bl bN bb aS bh;go_wp2_with fail;go_region_held3 (λw'=>w'.cell? ⟨p.heap.size,0,none⟩=some (.int .u8 (k:Int))/\w'.cell? ⟨p.heap.size,1,none⟩=some (.slice (some ⟨I,0,none⟩) (d.length+f.length) M)) (go_keep) ((go_at_call 129;refine(jZ _ k av).mono ?_;rintro e G ⟨rfl,bF⟩;rw [bF,cq.out];clear bF G));have aI:Hid (za (λ_=>False) t t.drew):=za.drew _ t;have bv:Hid (Cw t.drew E bd S T {D with reads:=A+H+L} C):=cU.kept0 aI.out
  have bG:Hid (qe t.drew (λj=>j=I) (some ⟨I,0,none⟩) (d++f)):=by have F:=aI.owns c1 nF;rw [<-ag] at F;exact qe.of_own F (λj l=>by simp [Value.ownBlock] at l;exact l.symm) (by rw [ag];omega)
  have a1:Hid (∀e∈d++f,e.Ok):=λe dE=>(ah.1 dE).elim (c6 e) (cW e);have ao:Hid (∀j,w.heap.size<=j->¬T j):=λj l s=>by have:=aK.out j s;omega
  have aE:Hid (t.drew.heap[w.heap.size]? =_):=b9.out;have a5:Hid (t.drew.heap[w.heap.size+1]? =_):=ci.out;have bf:Hid (t.drew.ownsRow 0 109 5 (.slice (some ⟨g,0,none⟩) b.length o) b.length (zj b)):=aI.owns cw nF;have aU:Hid (za (λj=>j=bd) w t.drew):=((ax.mono fE).trans ai (λj l=>l.elim .inl (λh=>.inr (by omega)))).trans aI fE;have cl:t.drew.cell? ⟨p.heap.size,0,none⟩=some (.int .u8 (k:Int)):=cQ;have cc:t.drew.cell? ⟨p.heap.size,1,none⟩=some (.slice (some ⟨I,0,none⟩) (d.length+f.length) M):=c5;have d0:t.drew.heap.size=t.heap.size:=rfl;clear cQ c5;have a7:t.drew.cell? ⟨w.heap.size,1,none⟩=some (.slice (some ⟨g,0,none⟩) b.length o):=cR aE.out rfl;have aG:Hid (d.length+f.length=(d++f).length):=by show _=_;rw [ag]
  generalize t.drew=X at*;rcases U.out with⟨J,ab,aq⟩|⟨J,ab,aq⟩
  .have aw:Hid (W=b.eraseIdx (q+1)):=ab;have ae:Hid (aC=(C.put B (zl (zc k (d++f)))).free m i):=aq;have cH:(d.length:Int)+(f.length:Int)<=6:=by rw [ag] at J;omega
   have az:Hid ((d++f).length<=6):=J;clear ab aq J U;go_wp2_with fail;refine(vf X E bd S T _ C bv _ _ M k bc (d++f) bG a1 az B (by omega) _ aG.symm).mono ?_;rintro cu bk ⟨rfl,⟨aQ,b4,b6⟩,av⟩;have dg:Hid (Cw bk E bd S aQ {D with reads:=A+H+L} (C.put B (zl (zc k (d++f))))):=b4;have aP:Hid (∀j,aQ j->T j\/X.heap.size<=j):=b6;have c4:Hid (za T X bk):=av;have d3:=av.size;clear b4 b6 av
   have ds:Hid (∀j,j<X.heap.size->¬T j->¬(j=bd\/aQ j)\/j=bd):=λj l dh=>by
    by_cases h:j=bd;.exact .inr h
    .exact .inl (λs=>s.elim h (λdD=>(aP j dD).elim dh (λh=>by omega)))
   have dj:=qw C B (zl (zc k (d++f)));have cK:Hid (qF ((C.put B (zl (zc k (d++f)))).look {D with reads:=A+H+L} 2) m):=by show qF _ m;rw [zF];exact du.put B _ ce
   go_wp2_with fail;refine(gd bk E bd S aQ _ _ dg m cK (by show 0<=A+H+L;omega) (by show A+H+L<=_;omega) (by omega) i dq).mono ?_;rintro cu R ⟨rfl,⟨cp,cj,dv,dr,bu,bI⟩,aX⟩;have cX:Hid (Cw R E bd S cj {D with reads:=A+H+L+cp} ((C.put B (zl (zc k (d++f)))).free m i)):=bu;have bK:Hid (∀j,cj j->aQ j\/bk.heap.size<=j):=bI;have cJ:Hid (za (λj=>j=bd\/aQ j) bk R):=aX;have d4:=aX.size;clear bu bI aX
   have al:Hid (za (λj=>j=bd\/T j) X R):=(c4.mono (λ_ h=>.inr h)).trans cJ (λj l=>by
    rcases l with h|h;.exact .inl (.inl h)
    .exact(aP j h).imp .inr id)
   have bS:Hid (∀j,w.heap.size<=j->¬(j=bd\/T j)):=λj l s=>s.elim (λh=>by omega) (ao j l);have ba:Hid (R.heap[w.heap.size]? =_):=(al.block _ (by omega) (bS _ (aF _))).trans aE.out;have cb:Hid (R.heap[w.heap.size+1]? =_):=(al.block _ (by omega) (bS _ (by omega))).trans a5.out;have c3:Hid (R.ownsRow 0 109 5 (.slice (some ⟨g,0,none⟩) b.length o) b.length (zj b)):=al.owns bf (λj l s=>by simp [Value.ownBlock] at l;subst l;exact s.elim cn ad);have cA:R.cell? ⟨w.heap.size,1,none⟩=some (.slice (some ⟨g,0,none⟩) b.length o):=cR ba.out rfl;clear a7 cl cc
   have cS:Hid (Calls Tryz.prog 181 #[.slice (some ⟨g,0,none⟩) b.length o,.int .i64 ((q:Int)+1),.int .i64 ((q:Int)+1+1)] R λe w'=>e=.returned (.slice (some ⟨g,0,none⟩) (b.length-1) o)/\w'.ownsRow 0 109 5 (.slice (some ⟨g,0,none⟩) (b.length-1) o) (b.length-1) (zj (b.eraseIdx (q+1)))/\za (λj=>j=g) R w'):=by have:=gc R g b.length o b rfl c3 (q+1) an (by omega);simp only [Int.natCast_add,Int.cast_ofNat_Int] at this;exact this
   go_wp2_with fail;refine cS.mono ?_;rintro cu N ⟨rfl,bO,au⟩;have cr:Hid (za (λj=>j=g) R N):=au;have d5:=au.size;have O:Hid (N.heap[w.heap.size]? =_):=(au.block _ (by omega) (by omega)).trans ba.out;have y:Hid (N.heap[w.heap.size+1]? =_):=(au.block _ (by omega) (by omega)).trans cb.out;change Hid _ at bO;clear au cA;have dn:N.cell? ⟨w.heap.size,0,none⟩=some (.int .u8 4):=cR O.out rfl;have ef:N.cell? ⟨w.heap.size,1,none⟩=some (.slice (some ⟨g,0,none⟩) b.length o):=cR O.out rfl;have eg:=aa N w.heap.size 1 _ _ O.out;have dz:N.cell? ⟨w.heap.size+1,0,none⟩=some (.int .u8 0):=cR y.out rfl;have dG:N.cell? ⟨w.heap.size+1,1,none⟩=some (.slice none 0 0):=cR y.out rfl;have cC:=aa N (w.heap.size+1) 0 _ _ y.out;have cN:=aa N (w.heap.size+1) 1 _ _ y.out;go_wp2;have d2:=heap_setCell_same N w.heap.size 1 _ _ (.slice (some ⟨g,0,none⟩) (b.length-1) o) O.out;have ck:=za.setCell (S:=λj=>j=w.heap.size) N ⟨w.heap.size,1,none⟩ (.slice (some ⟨g,0,none⟩) (b.length-1) o) rfl;have cP:=(ck.block _ (by omega) (by omega)).trans y.out;generalize N.setCell ⟨w.heap.size,1,none⟩ (.slice (some ⟨g,0,none⟩) (b.length-1) o)=am at*;have aZ:=heap_setCell_same am (w.heap.size+1) 0 _ _ (.int .u8 4) cP;have be:=heap_setCell_same _ (w.heap.size+1) 1 _ _ (.slice (some ⟨g,0,none⟩) (b.length-1) o) aZ;have aY:za (λj=>j=w.heap.size+1) am ((am.setCell ⟨w.heap.size+1,0,none⟩ (.int .u8 4)).setCell ⟨w.heap.size+1,1,none⟩ (.slice (some ⟨g,0,none⟩) (b.length-1) o)):=(za.setCell (S:=λj=>j=w.heap.size+1) am ⟨w.heap.size+1,0,none⟩ _ rfl).trans (za.setCell (S:=λj=>j=w.heap.size+1) _ ⟨w.heap.size+1,1,none⟩ _ rfl) iL;have bx:za (λj=>j=g\/j=w.heap.size\/j=w.heap.size+1) R ((am.setCell ⟨w.heap.size+1,0,none⟩ (.int .u8 4)).setCell ⟨w.heap.size+1,1,none⟩ (.slice (some ⟨g,0,none⟩) (b.length-1) o)):=((cr.mono iL).trans ck (λj l=>.inl (.inr (.inl l)))).trans aY (λj l=>.inl (.inr (.inr l)));have ar:W.length=b.length-1:=by rw [aw.out,iC an]
   refine bodyPost_ret (v:=.agg #[.int .u8 4,.slice (some ⟨g,0,none⟩) (b.length-1) o]) (results_cell_row Tryz.results180 _ _ (w.heap.size+1) 209 _ (0,0) _ rfl be Tryz.underlying209 rfl (by kernel_rfl)) rfl ⟨?_,?_,⟨H+L+cp,cj,by omega,by omega,?_,λj l=>?_⟩,?_⟩;.rw [ar]
   .rw [ar,aw.out];exact aY.owns (ck.owns bO (λj l bp=>by simp [Value.ownBlock] at l;omega)) (λj l bp=>by simp [Value.ownBlock] at l;omega)
   .rw [ae.out]
    have F:=cX.kept bx (λj l s=>by
     have:=a4.out j l;rcases s with h|h;.exact b0 (h▸l)
     .omega) (λj l s=>by
     have cV:T j\/X.heap.size<=j:=(bK j l).elim (aP j) (λh=>.inr (by omega));rcases cV with F|F
     .have:=aK.out j F;rcases s with h|h;.exact ad (h▸F)
      .omega
     .omega)
    simp only [a9] at F ⊢;exact F
   .rcases bK j l with F|F;.exact(aP j F).imp id (λh=>by omega)
    .exact .inr (by omega)
   .refine((aU.mono iL).trans al (λj l=>.inl (l.imp id .inl))).trans bx (λj l=>?_);rcases l with h|h;.exact .inl (.inr (.inr h))
    .exact .inr (by omega)
  .have aw:Hid (W=b.set (q+1) ⟨((d++f).getD ((d++f).length/2) gR).pl,b[q+1].mark,b[q+1].size,b[q+1].at_⟩):=ab;have ae:Hid (aC=(C.put B (zl (zc k ((d++f).take ((d++f).length/2))))).put (i+21) (zl (zc k ((d++f).drop ((d++f).length/2))))):=aq;have cH:¬(d.length:Int)+(f.length:Int)<=6:=by rw [ag] at J;omega
   have az:Hid (6<(d++f).length):=J;clear ab aq J U;have a2:(d++f).length/2<(d++f).length:=by have:=az.out;omega
   obtain⟨z,cf⟩:∃z,(d++f)[(d++f).length/2]'a2=z:=⟨_,rfl⟩
   have dw:Hid ((d++f).getD ((d++f).length/2) gR=z):=by show _=_;rw [aA,aH a2,iT];exact cf
   have db:Hid (Calls Tryz.prog 200 #[.agg #[.int .u8 (k:Int),.slice (some ⟨I,0,none⟩) (d.length+f.length) M],.pointer (some ⟨E,0,none⟩),.int .i64 (B:Int),.int .i64 ((i:Int)+21)] X.drew λr w'=>r=.returned (.agg #[.string z.pl.key,.int .i64 z.pl.num])/\(∃cE,Cw w' E bd S cE {D with reads:=A+H+L} aC/\∀j,cE j->T j\/X.heap.size<=j)/\za T X.drew w'):=by have:=cZ X.drew E bd S T {D with reads:=A+H+L} C (bv.kept0 (za.drew _ X)) (λj=>j=I) (λj l s=>ao j (by rw [l];have:=co.1;omega) s) (some ⟨I,0,none⟩) M k bc (d++f) (bG.kept (za.drew (λ_=>False) X) nF) a1 ((d++f).length/2) rfl a2 (by rw [<-aG.out];omega) (by rw [<-aG.out];exact bR.1) bR.2 B (i+21) (by omega);rw [cf,<-ae.out,<-aG.out,show ((i+21:Nat):Int)=(i:Int)+21 from by omega] at this;exact this
   clear cf a2;have cF:Hid (qe X (λ_=>True) (some ⟨g,0,none⟩) b):=qe.of_own bf (λ_ _=>eI) (by omega)
   have b2:Hid (∀(u:World) (dy:Nat),u.ownsRow 0 109 5 (.slice (some ⟨g,0,none⟩) b.length o) b.length (zj b)->u.frozen? ⟨g,dy,none⟩=false):=λu dy aR=>by
    rcases aR.2 with⟨c9,_⟩|⟨ej,V,eb,br,ei,dS,_⟩;.cases c9
    .cases br;exact aa u g dy _ _ dS
   obtain⟨b7,cg, -, -, -, -, -⟩:=cF.cells (q+1) an;simp only [eT] at b7 cg;have dd:Hid (X.cell? ⟨g,(q+1)*5,none⟩=_):=b7;have cB:Hid (X.cell? ⟨g,(q+1)*5+1,none⟩=_):=cg;have c7:Hid (X.cell? ⟨p.heap.size,0,none⟩=some (.int .u8 (k:Int))):=cl;have cL:Hid (X.cell? ⟨p.heap.size,1,none⟩=some (.slice (some ⟨I,0,none⟩) (d.length+f.length) M)):=cc;have c2:Hid (X.cell? ⟨w.heap.size,1,none⟩=some (.slice (some ⟨g,0,none⟩) b.length o)):=a7;have de:¬w.heap.size=g:=by omega
   have dT:¬g=w.heap.size:=by omega
   have dp:¬g=p.heap.size:=by omega
   have b5:g<X.heap.size:=by omega
   have bz:w.heap.size<X.heap.size:=by omega
   have bZ:p.heap.size<X.heap.size:=by omega
   have aJ:Hid (¬T w.heap.size/\¬T p.heap.size):=⟨ao _ (aF _),ao _ (by omega)⟩;clear b7 cg;go_wp2_with fail;go_region_held3 (λw'=>w'.cell? ⟨w.heap.size,1,none⟩=some (.slice (some ⟨g,0,none⟩) b.length o)/\w'.cell? ⟨p.heap.size,0,none⟩=some (.int .u8 (k:Int))/\w'.cell? ⟨p.heap.size,1,none⟩=some (.slice (some ⟨I,0,none⟩) (d.length+f.length) M)) (go_keep) ((go_at_call 200;refine db.mono ?_;rintro cu G ⟨rfl,⟨ca,bD,bH⟩,P⟩;have cs:Hid (Cw G E bd S ca {D with reads:=A+H+L} aC):=bD;have b3:Hid (∀j,ca j->T j\/X.heap.size<=j):=bH;have aN:Hid (za T X.drew G):=P;have dN:G.cell? ⟨w.heap.size,1,none⟩=some (.slice (some ⟨g,0,none⟩) b.length o):=(P.cell (a:=⟨w.heap.size,1,none⟩) bz aJ.1).trans c2.out;have dQ:G.cell? ⟨p.heap.size,0,none⟩=some (.int .u8 (k:Int)):=(P.cell (a:=⟨p.heap.size,0,none⟩) bZ aJ.2).trans c7.out;have dH:G.cell? ⟨p.heap.size,1,none⟩=some (.slice (some ⟨I,0,none⟩) (d.length+f.length) M):=(P.cell (a:=⟨p.heap.size,1,none⟩) bZ aJ.2).trans cL.out;have bj:Hid (G.ownsRow 0 109 5 (.slice (some ⟨g,0,none⟩) b.length o) b.length (zj b)):=P.owns ((za.drew (λ_=>False) X).owns bf nF) (λj l s=>by simp [Value.ownBlock] at l;subst l;exact ad s);have dA:G.cell? ⟨g,(q+1)*5,none⟩=some (.string b[q+1].pl.key):=(P.cell (a:=⟨g,(q+1)*5,none⟩) b5 ad).trans dd.out;have dm:G.cell? ⟨g,(q+1)*5+1,none⟩=some (.int .i64 b[q+1].pl.num):=(P.cell (a:=⟨g,(q+1)*5+1,none⟩) b5 ad).trans cB.out;have dF:=b2.out G ((q+1)*5) bj.out;have dV:=b2.out G ((q+1)*5+1) bj.out;clear bD bH P));have d7:X.heap.size<=G.heap.size:=aN.size;have cy:Hid (G.heap[w.heap.size]? =_):=(aN.block _ bz aJ.1).trans aE.out;have ch:Hid (G.heap[w.heap.size+1]? =_):=(aN.block _ (show w.heap.size+1<X.heap.size by omega) (ao _ (by omega))).trans a5.out;have bU:=U8 rfl bj (q+1) an z.pl.key z.pl.num;have aV:Hid (za (λj=>j=g) G ((G.setCell ⟨g,(q+1)*5,none⟩ (.string z.pl.key)).setCell ⟨g,(q+1)*5+1,none⟩ (.int .i64 z.pl.num))):=(za.setCell (S:=λj=>j=g) G ⟨g,(q+1)*5,none⟩ _ rfl).trans (za.setCell (S:=λj=>j=g) _ ⟨g,(q+1)*5+1,none⟩ _ rfl) iL;change Hid _ at bU;clear dN dQ dH dA dm dF dV;generalize ((G.setCell ⟨g,(q+1)*5,none⟩ (.string z.pl.key)).setCell ⟨g,(q+1)*5+1,none⟩ (.int .i64 z.pl.num))=am at*;have O:Hid (am.heap[w.heap.size]? =_):=(aV.block _ (by omega) de).trans cy.out;have y:Hid (am.heap[w.heap.size+1]? =_):=(aV.block _ (by omega) (by omega)).trans ch.out;have dn:am.cell? ⟨w.heap.size,0,none⟩=some (.int .u8 4):=cR O.out rfl;have dz:am.cell? ⟨w.heap.size+1,0,none⟩=some (.int .u8 0):=cR y.out rfl;have dG:am.cell? ⟨w.heap.size+1,1,none⟩=some (.slice none 0 0):=cR y.out rfl;have cC:=aa am (w.heap.size+1) 0 _ _ y.out;have cN:=aa am (w.heap.size+1) 1 _ _ y.out;clear a7 cl cc;go_wp2;have aZ:=heap_setCell_same am (w.heap.size+1) 0 _ _ (.int .u8 4) y.out;have be:=heap_setCell_same _ (w.heap.size+1) 1 _ _ (.slice (some ⟨g,0,none⟩) b.length o) aZ;have aY:za (λj=>j=w.heap.size+1) am ((am.setCell ⟨w.heap.size+1,0,none⟩ (.int .u8 4)).setCell ⟨w.heap.size+1,1,none⟩ (.slice (some ⟨g,0,none⟩) b.length o)):=(za.setCell (S:=λj=>j=w.heap.size+1) am ⟨w.heap.size+1,0,none⟩ _ rfl).trans (za.setCell (S:=λj=>j=w.heap.size+1) _ ⟨w.heap.size+1,1,none⟩ _ rfl) iL;have bM:za (λj=>j=g\/j=w.heap.size+1) G ((am.setCell ⟨w.heap.size+1,0,none⟩ (.int .u8 4)).setCell ⟨w.heap.size+1,1,none⟩ (.slice (some ⟨g,0,none⟩) b.length o)):=(aV.mono iL).trans aY (λ_ h=>.inl (.inr h));have ar:W.length=b.length:=by rw [aw.out,ew]
   refine bodyPost_ret (v:=.agg #[.int .u8 4,.slice (some ⟨g,0,none⟩) b.length o]) (results_cell_row Tryz.results180 _ _ (w.heap.size+1) 209 _ (0,0) _ rfl be Tryz.underlying209 rfl (by kernel_rfl)) rfl ⟨?_,?_,⟨H+L,ca,by omega,by omega,?_,λj l=>(b3 j l).imp id (λh=>by omega)⟩,?_⟩;.rw [ar]
   .rw [ar,aw.out,dw.out];exact aY.owns bU (λj l bp=>by simp [Value.ownBlock] at l;omega)
   .have F:=cs.kept bM (λj l s=>by
     have:=a4.out j l;rcases s with h|h;.exact b0 (h▸l)
     .omega) (λj l s=>by
     rcases b3 j l with F|F
     .have:=aK.out j F;rcases s with h|h;.exact ad (h▸F)
      .omega
     .omega)
    simp only [a9] at F ⊢;exact F
   .refine(((aU.mono iL).trans (za.drew (λ_=>False) X) fE).trans aN (λj l=>.inl (.inr (.inl l)))).trans bM (λj l=>?_);rcases l with h|h;.exact .inl (.inr (.inr h))
    .exact .inr (by omega)
end
structure gg (bc bd:Nat) (S T:Nat->Prop) (D:Dk) (C:Ck) (h at_:Nat) (p:Pl) (v:List Value) (s ok:Bool) (C':Ck):Prop where
 go:∀(w:World) (r:Int),0<=r->r+(4*h:Nat)<=4611686018427370000->Cw w bc bd S T {D with reads:=r} C->
  Calls Tryz.prog 141 #[.pointer (some ⟨bc,0,none⟩),.int .i64 at_,.agg #[.string p.key,.int .i64 p.num]] w λx w'=>x=.returned (.tuple #[.agg v.toArray,.bool s,.bool ok])/\(∃(n:Int) (T':Nat->Prop),0<=n/\n<=(4*h+1:Nat)/\Cw w' bc bd S T' {D with reads:=r+n} C'/\∀j,T' j->T j\/w.heap.size<=j)/\za (λj=>j=bd\/T j) w w'
structure Uk (bc bd:Nat) (S T:Nat->Prop) (D:Dk) (C:Ck) (at_:Nat) (p:Pl) (M:Nat) (v:List Value) (s ok:Bool) (C':Ck):Prop where
 go:∀(w0:World) (n0:Int),0<=n0->n0<=1->Cw w0 bc bd S T {D with reads:=D.reads+n0} C->Calls Tryz.prog 141 #[.pointer (some ⟨bc,0,none⟩),.int .i64 at_,.agg #[.string p.key,.int .i64 p.num]] w0 λr w'=>r=.returned (.tuple #[.agg v.toArray,.bool s,.bool ok])/\(∃(n:Int) (T':Nat->Prop),0<=n/\n<=M/\Cw w' bc bd S T' {D with reads:=D.reads+n0+n} C'/\∀j,T' j->T j\/w0.heap.size<=j)/\za (λj=>j=bd\/T j) w0 w'
structure Df (w W:World) (p:Pl):Prop where
 kept:za (λ_=>False) w W
 pl:W.heap[w.heap.size]? =some (.cells #[.string p.key,.int .i64 p.num] 107 (0,0))
 res:W.heap[w.heap.size+1]? =some (.cells #[.string ⟨#[]⟩,.int .i64 0,.bool false,.int .i64 0,.int .i64 0] 109 (0,0))
 size:W.heap.size=w.heap.size+2
theorem Ul(w:World)(p:Pl):Df w ((w.alloc (.cells #[.string p.key,.int .i64 p.num] 107)).alloc (.cells #[.string ⟨#[]⟩,.int .i64 0,.bool false,.int .i64 0,.int .i64 0] 109)) p:=
 ⟨za.alloc2 _ _ _,((za.alloc (λ_=>False) _ _).block w.heap.size (by simp) id).trans (ac w _),eF w _ _,by simp⟩
theorem yW{P:Program}{fn:Func}{p u v:Tmp}{b:TypeId}(h:fn.results=#[.cell p b,.tmp u,.tmp v])(tmps:Array Value)(w:World)(g:Nat)(t:TypeId)(a:Array Value)(c:Nat×Nat)(d:TypeDesc)
 (i:tmps.getD p undef=.pointer (some ⟨g,0,none⟩)) (f:w.heap[g]? =some (.cells a t c))
 (l:P.underlying b=some d) (j:(match d with|.struct _|.array _ _=>true|_=>false)=true) (k:(P.info? b).map (·.size)=some a.size):
 (results fn tmps).run P w=.ok (.tuple #[.agg a,tmps.getD u undef,tmps.getD v undef]) w:=by
 have e:tmps[p]?.getD undef=.pointer (some ⟨g,0,none⟩):=by simpa using i
 simp [results,h,e,asAddr,run_loadVar_row w g t b a c d f l j k]
theorem jz(w:World)(n b:Nat)(t:TypeId)(l i m g k c e d a f:Value)(h:w.heap[b]? =some (.cells #[l,i,m,g,k] t (0,0))):
 ((((((w.drewN n).setCell ⟨b,0,none⟩ c).setCell ⟨b,1,none⟩ e).setCell ⟨b,2,none⟩ d).setCell ⟨b,3,none⟩ a).setCell ⟨b,4,none⟩ f).heap[b]? =some (.cells #[c,e,d,a,f] t (0,0))/\za (λj=>j=b) w ((((((w.drewN n).setCell ⟨b,0,none⟩ c).setCell ⟨b,1,none⟩ e).setCell ⟨b,2,none⟩ d).setCell ⟨b,3,none⟩ a).setCell ⟨b,4,none⟩ f):=by
 obtain⟨o,h2⟩:=kF (w.drewN n) b t l i m g k c e d a f h;exact⟨o,za.trans (b:=w.drewN n) kD h2 iL⟩
theorem Um{a b:Pl}(h:a≠b):(a.key.toList==b.key.toList)=false\/((a.key.toList==b.key.toList)=true/\(a.num==b.num)=false):=by
 by_cases c:a.key=b.key
 .refine .inr ⟨by rw [c];simp,?_⟩;have:¬a.num=b.num:=λe=>h (by cases a;cases b;simp only at c e;rw [c,e]);simpa using this
 .exact .inl (by have:=mt qN.1 c;simpa using this)
theorem Yx(w:World)(B bd:Nat)(S T:Nat->Prop)(D:Dk)(C:Ck)(h:Cw w B bd S T D C)(V:0<=D.reads)(aA:D.reads<=4611686018427380000)(t:Nat)(ae:t<65536)(c:List En)(H:∀e∈c,e.Ok)(Q:c.length<=6)(Z:yL c)(W:C.look D t=zl (zc 5 c))(p:Pl)(u:∀aH:zt c p<c.length,c[zt c p].pl≠p):
 Calls Tryz.prog 141 #[.pointer (some ⟨B,0,none⟩),.int .i64 t,.agg #[.string p.key,.int .i64 p.num]] w λaj w'=>aj=.returned (.tuple #[.agg qx.toArray,.bool false,.bool false])/\(∃n:Int,0<=n/\n<=1/\Cw w' B bd S T {D with reads:=D.reads+n} C)/\za (λj=>j=bd) w w':=by
 have R:Hid _:=h;have av:=h.disk.lt bd h.disk.bdS;change Hid _ at H Z W u;clear h;have y:Hid _:=Ul w p;unfold qx;go_enter Tryz.func141,Tryz.ntmps141;go_wp2_with fail;generalize ((w.alloc (.cells #[.string p.key,.int .i64 p.num] 107)).alloc (.cells #[.string ⟨#[]⟩,.int .i64 0,.bool false,.int .i64 0,.int .i64 0] 109))=au at*;refine(yy au B bd S T D C (R.kept0 y.kept) V (by omega) t ae 5 c (.inr rfl) H (λh=>absurd h (by decide)) Q W).mono ?_;rintro r k ⟨a,l,rfl,⟨al,Y,ab,K⟩,o,m,E,P⟩;have ar:=y.size;have ah:=o.size;have s:Hid (k.heap[w.heap.size]? =_):=(o.block _ (by omega) (by omega)).trans y.pl;have N:Hid (k.heap[w.heap.size+1]? =_):=(o.block _ (by omega) (by omega)).trans y.res;change Hid _ at K o m;clear E P;have an:k.cell? ⟨w.heap.size,0,none⟩=some (.string p.key):=cR s.out rfl;have am:k.cell? ⟨w.heap.size,1,none⟩=some (.int .i64 p.num):=cR s.out rfl;have ao:w.heap.size<k.heap.size:=by omega
 go_wp2_with fail;have M:Hid (za (λ_=>False) k (k.alloc (.cells #[.int .u8 5,.slice a c.length l] 209))):=za.alloc _ _ _;have af:Hid ((k.alloc (.cells #[.int .u8 5,.slice a c.length l] 209)).heap[k.heap.size]? =some (.cells #[.int .u8 5,.slice a c.length l] 209 (0,0))):=ac k _;have az:(k.alloc (.cells #[.int .u8 5,.slice a c.length l] 209)).heap.size=k.heap.size+1:=by simp
 generalize (k.alloc (.cells #[.int .u8 5,.slice a c.length l] 209))=ag at*;refine(jr ag _ a l c (m.kept M nF) Z 5 p).mono ?_;rintro r f ⟨rfl,v⟩;have q:Hid (za (λ_=>False) k f):=M.trans v iL;have O:Hid (f.heap[k.heap.size]? =_):=(v.block _ (by omega) id).trans af.out;have A:Hid (f.heap[w.heap.size]? =_):=(q.block _ (by omega) id).trans s.out;have d:Hid (f.heap[w.heap.size+1]? =_):=(q.block _ (by omega) id).trans N.out;have x:Hid (qe f (λb=>au.heap.size<=b) a c):=m.kept q nF;clear v an am;have aD:f.cell? ⟨w.heap.size,0,none⟩=some (.string p.key):=cR A.out rfl;have aN:f.cell? ⟨w.heap.size,1,none⟩=some (.int .i64 p.num):=cR A.out rfl;have aL:f.cell? ⟨k.heap.size,1,none⟩=some (.slice a c.length l):=cR O.out rfl;have ax:=xQ c p
 have I:Hid (∀(F:World) (tmps:Array Value),F.heap[w.heap.size+1]? =some (.cells #[.string ⟨#[]⟩,.int .i64 0,.bool false,.int .i64 0,.int .i64 0] 109 (0,0))->za (λj=>j=w.heap.size+1) f F->tmps.getD 6 undef=.pointer (some ⟨w.heap.size+1,0,none⟩)->tmps.getD 7 undef=.bool false->tmps.getD 8 undef=.bool false->bodyPost Tryz.prog Tryz.f141 (λaj w'=>aj=.returned (.tuple #[.agg #[.string ⟨#[]⟩,.int .i64 0,.bool false,.int .i64 0,.int .i64 0],.bool false,.bool false])/\(∃n:Int,0<=n/\n<=1/\Cw w' B bd S T {D with reads:=D.reads+n} C)/\za (λj=>j=bd) w w') .ret {tmps:=tmps,defers:=[]} F):=by intro F tmps ak k3 ai aq ap;refine bodyPost_ret (yW rfl _ _ _ _ _ _ _ ai ak Tryz.underlying109 rfl (by kernel_rfl)) rfl ⟨by rw [aq,ap],⟨al,Y,ab,(K.kept0 q).kept k3 (λj G ad=>by have:=R.disk.lt j G;omega) (λj G ad=>by have:=R.chg.lt j G;omega)⟩,?_⟩;exact(((y.kept.mono fE).trans o iL).trans q fE).trans k3 (λj G=>.inr (by omega))
 have aQ:f.cell? ⟨w.heap.size+1,0,none⟩=some (.string ⟨#[]⟩):=cR d.out rfl;have aI:f.cell? ⟨w.heap.size+1,1,none⟩=some (.int .i64 0):=cR d.out rfl;have aJ:f.cell? ⟨w.heap.size+1,2,none⟩=some (.bool false):=cR d.out rfl;have aO:f.cell? ⟨w.heap.size+1,3,none⟩=some (.int .i64 0):=cR d.out rfl;have aF:f.cell? ⟨w.heap.size+1,4,none⟩=some (.int .i64 0):=cR d.out rfl;have aE:=aa f (w.heap.size+1) 0 _ _ d.out;have aB:=aa f (w.heap.size+1) 1 _ _ d.out;have aP:=aa f (w.heap.size+1) 2 _ _ d.out;have aR:=aa f (w.heap.size+1) 3 _ _ d.out;have aC:=aa f (w.heap.size+1) 4 _ _ d.out;by_cases z:zt c p=c.length
 .have U:(((zt c p:Nat):Int)==(c.length:Int))=true:=by rw [z];simp
  clear u;generalize zt c p=i at*;clear z;go_wp2_with fail;go_quiet (fail);go_wp2;exact I _ _ (jz f _ _ _ _ _ _ _ _ _ _ _ _ _ d).1 (jz f _ _ _ _ _ _ _ _ _ _ _ _ _ d).2 rfl rfl rfl
 .have J:zt c p<c.length:=by omega
  have U:(((zt c p:Nat):Int)==(c.length:Int))=false:=beq_false_of_ne (by omega);have L:=u.out J;obtain⟨g,aS,rfl⟩:=x.base (by omega);obtain⟨ad,aM, -, -, -, -, -⟩:=x.cells (zt c p) J;have hap:=Um L;clear L u;generalize c[zt c p].pl.key=aG at*;generalize c[zt c p].pl.num=aK at*;generalize zt c p=i at*;have ay:(i:Int)<(c.length:Int):=by omega
  rcases hap with X|⟨X,aw⟩
  all_goals
   go_wp2_with fail;go_quiet (fail);go_wp2;exact I _ _ (jz f _ _ _ _ _ _ _ _ _ _ _ _ _ d).1 (jz f _ _ _ _ _ _ _ _ _ _ _ _ _ d).2 rfl rfl rfl
theorem Yy(w:World)(ah bd:Nat)(S T:Nat->Prop)(D:Dk)(C:Ck)(h:Cw w ah bd S T D C)(aR:0<=D.reads)(bS:D.reads<=4611686018427380000)(G:Nat)(a1:G<65536)(c:List En)(ae:∀e∈c,e.Ok)(aA:c.length<=6)(aK:yL c)(aW:C.look D G=zl (zc 5 c))(p:Pl)(i:Nat)(ap:zt c p=i)(az:i<c.length)(aj:c[i].pl=p)(bz:C.ws.length<700)(E:List En)(I:c.eraseIdx i=E)(s:Bool)(aw:decide ((E.length:Int)<3)=s):
 Calls Tryz.prog 141 #[.pointer (some ⟨ah,0,none⟩),.int .i64 G,.agg #[.string p.key,.int .i64 p.num]] w λaI w'=>aI=.returned (.tuple #[.agg (qr c[i]).toArray,.bool s,.bool true])/\(∃(n:Int) (aM:Nat->Prop),0<=n/\n<=1/\Cw w' ah bd S aM {D with reads:=D.reads+n} (C.put G (zl (zc 5 E)))/\∀j,aM j->T j\/w.heap.size<=j)/\za (λj=>j=bd\/T j) w w':=by
 have bw:Hid _:=h;have B:E.length=c.length-1:=by rw [<-I,iC az]
 have aP:Hid (∀aI∈E,aI.Ok):=λaI bm=>ae aI (List.mem_of_mem_eraseIdx (by rw [I];exact bm));have bM:=h.disk.lt bd h.disk.bdS;have W:Hid _:=h.chg.lt;have an:Hid _:=h.disk.lt;change Hid _ at ae aK aW ap I aw;clear h;have af:Hid _:=Ul w p;obtain⟨z,aC⟩:∃z,c[i]=z:=⟨_,rfl⟩;rw [aC] at aj ⊢;have bG:(z.pl.key.toList==p.key.toList)=true:=by rw [aj];simp
 have bH:(z.pl.num==p.num)=true:=by rw [aj];simp
 change Hid _ at aC;clear aj;unfold qr;go_enter Tryz.func141,Tryz.ntmps141;go_wp2_with fail;generalize ((w.alloc (.cells #[.string p.key,.int .i64 p.num] 107)).alloc (.cells #[.string ⟨#[]⟩,.int .i64 0,.bool false,.int .i64 0,.int .i64 0] 109))=bV at*;refine(yy bV ah bd S T D C (bw.kept0 af.kept) aR (by omega) G a1 5 c (.inr rfl) ae (λh=>absurd h (by decide)) aA aW).mono ?_;rintro r b ⟨a,d,rfl,⟨ba,aX,aN,av⟩,K,y,A,Y⟩;have bK:=af.size;have bn:=K.size;have P:Hid (b.heap[w.heap.size]? =_):=(K.block _ (by omega) (by omega)).trans af.pl;have aE:Hid (b.heap[w.heap.size+1]? =_):=(K.block _ (by omega) (by omega)).trans af.res;obtain⟨g,bW,rfl⟩:=y.base (by omega)
 obtain rfl:bW=0:=by
  rcases A.2 with⟨bx,_⟩|⟨b3,a9,bP,aZ,_⟩;.cases bx
  .simp only [Value.slice.injEq,ij,Addr.mk.injEq] at aZ;exact aZ.1.2.1
 have bN:=Y g rfl;have bF:=(A.lt g rfl).2;change Hid _ at av K y A;clear Y;have be:b.cell? ⟨w.heap.size,0,none⟩=some (.string p.key):=cR P.out rfl;have bb:b.cell? ⟨w.heap.size,1,none⟩=some (.int .i64 p.num):=cR P.out rfl;have bg:w.heap.size<b.heap.size:=by omega
 go_wp2_with fail;have aq:Hid (za (λ_=>False) b (b.alloc (.cells #[.int .u8 5,.slice (some ⟨g,0,none⟩) c.length d] 209))):=za.alloc _ _ _;have aO:Hid ((b.alloc (.cells #[.int .u8 5,.slice (some ⟨g,0,none⟩) c.length d] 209)).heap[b.heap.size]? =some (.cells #[.int .u8 5,.slice (some ⟨g,0,none⟩) c.length d] 209 (0,0))):=ac b _;have bR:(b.alloc (.cells #[.int .u8 5,.slice (some ⟨g,0,none⟩) c.length d] 209)).heap.size=b.heap.size+1:=by simp
 generalize (b.alloc (.cells #[.int .u8 5,.slice (some ⟨g,0,none⟩) c.length d] 209))=a4 at*;refine(jr a4 _ _ d c (y.kept aq nF) aK 5 p).mono ?_;rintro r m ⟨rfl,R⟩;rw [ap.out];have N:Hid (za (λ_=>False) b m):=aq.trans R iL;have bl:=R.size;have O:Hid (m.heap[b.heap.size]? =_):=(R.block _ (by omega) id).trans aO.out;have ad:Hid (m.heap[w.heap.size]? =_):=(N.block _ (by omega) id).trans P.out;have f:Hid (m.heap[w.heap.size+1]? =_):=(N.block _ (by omega) id).trans aE.out;have ax:Hid _:=y.kept N nF;clear R be bb;have bp:m.cell? ⟨w.heap.size,0,none⟩=some (.string p.key):=cR ad.out rfl;have bA:m.cell? ⟨w.heap.size,1,none⟩=some (.int .i64 p.num):=cR ad.out rfl;have a8:m.cell? ⟨b.heap.size,0,none⟩=some (.int .u8 5):=cR O.out rfl;have bv:m.cell? ⟨b.heap.size,1,none⟩=some (.slice (some ⟨g,0,none⟩) c.length d):=cR O.out rfl;have F:=ax.cells i az;rw [aC.out] at F;simp only [eT] at F;obtain⟨Z,bf,bu,bs,br, -, -⟩:=F;have bE:((i:Int)==(c.length:Int))=false:=beq_false_of_ne (by omega);have bQ:(i:Int)<(c.length:Int):=by omega
 have bC:m.cell? ⟨w.heap.size+1,0,none⟩=some (.string ⟨#[]⟩):=cR f.out rfl;have bt:m.cell? ⟨w.heap.size+1,1,none⟩=some (.int .i64 0):=cR f.out rfl;have bc:m.cell? ⟨w.heap.size+1,2,none⟩=some (.bool false):=cR f.out rfl;have bh:m.cell? ⟨w.heap.size+1,3,none⟩=some (.int .i64 0):=cR f.out rfl;have a7:m.cell? ⟨w.heap.size+1,4,none⟩=some (.int .i64 0):=cR f.out rfl;have a5:=aa m (w.heap.size+1) 0 _ _ f.out;have a3:=aa m (w.heap.size+1) 1 _ _ f.out;have bB:=aa m (w.heap.size+1) 2 _ _ f.out;have bi:=aa m (w.heap.size+1) 3 _ _ f.out;have bk:=aa m (w.heap.size+1) 4 _ _ f.out;have bO:¬b.heap.size=w.heap.size+1:=by omega
 go_wp2_with fail;go_quiet (fail);go_wp2_with fail;obtain⟨am,L⟩:=jz m nq (w.heap.size+1) 109 _ _ _ _ _ (.string z.pl.key) (.int .i64 z.pl.num) (.bool z.mark) (.int .i64 (z.size:Int)) (.int .i64 (z.at_:Int)) f.out;change Hid _ at am L;clear bC bt bc bh a7 a5 a3 bB bi bk Z bf bu bs br bp bA a8 bv;generalize ((((((m.drewN nq).setCell ⟨w.heap.size+1,0,none⟩ (.string z.pl.key)).setCell ⟨w.heap.size+1,1,none⟩ (.int .i64 z.pl.num)).setCell ⟨w.heap.size+1,2,none⟩ (.bool z.mark)).setCell ⟨w.heap.size+1,3,none⟩ (.int .i64 (z.size:Int))).setCell ⟨w.heap.size+1,4,none⟩ (.int .i64 (z.at_:Int)))=X at*;have bD:=L.size;have aS:Hid _:=L.owns (N.owns A nF) (λj l Z=>by simp [Value.ownBlock] at l;omega);have aG:Hid (X.heap[b.heap.size]? =_):=(L.block _ (by omega) (by omega)).trans O.out;refine(gc X g c.length d c rfl aS i az (by omega)).mono ?_;rintro r v ⟨rfl,ag,J⟩;rw [I.out] at ag;have aQ:Hid (za (λj=>j=g) X v):=J;have bI:=J.size;have aH:Hid (v.heap[w.heap.size+1]? =_):=(J.block _ (by omega) (by omega)).trans am.out;have H:Hid (v.heap[b.heap.size]? =_):=(J.block _ (by omega) (by omega)).trans aG.out;change Hid _ at ag;clear J;have bj:v.cell? ⟨b.heap.size,0,none⟩=some (.int .u8 5):=cR H.out rfl;have bq:v.cell? ⟨b.heap.size,1,none⟩=some (.slice (some ⟨g,0,none⟩) c.length d):=cR H.out rfl;have bo:=aa v b.heap.size 1 _ _ H.out;go_wp2_with fail;have aV:Hid ((v.setCell ⟨b.heap.size,1,none⟩ (.slice (some ⟨g,0,none⟩) (c.length-1) d)).heap[b.heap.size]? =some (.cells #[.int .u8 5,.slice (some ⟨g,0,none⟩) (c.length-1) d] 209 (0,0))):=heap_setCell_same v b.heap.size 1 _ _ _ H.out;have U:Hid (za (λj=>j=b.heap.size) v (v.setCell ⟨b.heap.size,1,none⟩ (.slice (some ⟨g,0,none⟩) (c.length-1) d))):=za.setCell (S:=λj=>j=b.heap.size) v ⟨b.heap.size,1,none⟩ _ rfl;generalize (v.setCell ⟨b.heap.size,1,none⟩ (.slice (some ⟨g,0,none⟩) (c.length-1) d))=ai at*;clear bj bq bo;have bJ:=U.size;have ay:Hid (ai.heap[w.heap.size+1]? =_):=(U.block _ (by omega) (by omega)).trans aH.out;have aU:Hid _:=U.owns ag (λj l Z=>by simp [Value.ownBlock] at l;omega)
 have aY:Hid (qe ai (λj=>j=g) (some ⟨g,0,none⟩) E):=by have:=aU.out;rw [<-B] at this;exact qe.of_own this (λj l=>by simp [Value.ownBlock] at l;exact l.symm) (by omega)
 have V:Hid (za (λj=>w.heap.size<=j) b ai):=(((N.mono fE).trans L (λj l=>.inl (by omega))).trans aQ (λj l=>.inl (by omega))).trans U (λj l=>.inl (by omega));have aT:Hid _:=av.kept V (λj l aF=>by have:=an.out j l;omega) (λj l aF=>by have:=W.out j l;omega);have aB:Hid _:=((af.kept.mono fE).trans K iL).trans V (λj l=>.inr l);refine(vf ai ah bd S T _ C aT _ _ d 5 (.inr rfl) E aY aP (by omega) G (by omega) _ B).mono ?_;rintro r t ⟨rfl,⟨a6,al,ab⟩,M⟩;have bL:=M.size;have ao:Hid (∀j,w.heap.size<=j->¬T j):=λj l aF=>by have:=W.out j aF;omega
 have q:Hid (t.heap[w.heap.size+1]? =_):=(M.block _ (by omega) (ao _ (by omega))).trans ay.out;have Q:Hid (t.heap[b.heap.size]? =_):=(M.block _ (by omega) (ao _ (by omega))).trans aV.out;change Hid _ at al ab M
 have aD:Hid (∀u,Calls Tryz.prog 182 #[.agg #[.int .u8 5,.slice (some ⟨g,0,none⟩) (c.length-1) d]] u λe w'=>e=.returned (.bool s)/\za (λ_=>False) u w'):=λu=>by have:=Zj u 5 (.inr rfl) (some ⟨g,0,none⟩) (c.length-1) d;rw [<-B,aw.out] at this;rw [<-B];exact this
 have a2:Hid (∀u,za (λ_=>False) t u->u.heap[w.heap.size+1]? =some (.cells #[.string z.pl.key,.int .i64 z.pl.num,.bool z.mark,.int .i64 (z.size:Int),.int .i64 (z.at_:Int)] 109 (0,0))/\u.heap[b.heap.size]? =some (.cells #[.int .u8 5,.slice (some ⟨g,0,none⟩) (c.length-1) d] 209 (0,0))):=λu k=>⟨(k.block _ (by omega) id).trans q,(k.block _ (by omega) id).trans Q⟩;have bT:t.cell? ⟨w.heap.size+1,0,none⟩=some (.string z.pl.key):=cR q.out rfl;have b5:t.cell? ⟨w.heap.size+1,1,none⟩=some (.int .i64 z.pl.num):=cR q.out rfl;have bX:t.cell? ⟨w.heap.size+1,2,none⟩=some (.bool z.mark):=cR q.out rfl;have b4:t.cell? ⟨w.heap.size+1,3,none⟩=some (.int .i64 (z.size:Int)):=cR q.out rfl;have bU:t.cell? ⟨w.heap.size+1,4,none⟩=some (.int .i64 (z.at_:Int)):=cR q.out rfl;have bY:t.cell? ⟨b.heap.size,0,none⟩=some (.int .u8 5):=cR Q.out rfl;have b1:t.cell? ⟨b.heap.size,1,none⟩=some (.slice (some ⟨g,0,none⟩) (c.length-1) d):=cR Q.out rfl;go_wp2_with fail
 go_region_law (go_simp;go_at_call 182;refine(aD t.drew).mono ?_;rintro r x ⟨rfl,au⟩;have ar:Hid _:=(za.drew (λ_=>False) t).trans au iL;have o:=(a2 x ar).1;have u0:x.cell? ⟨w.heap.size+1,0,none⟩=some (.string z.pl.key):=(cR o rfl);have u1:x.cell? ⟨w.heap.size+1,1,none⟩=some (.int .i64 z.pl.num):=(cR o rfl);have u2:x.cell? ⟨w.heap.size+1,2,none⟩=some (.bool z.mark):=(cR o rfl);have u3:x.cell? ⟨w.heap.size+1,3,none⟩=some (.int .i64 (z.size:Int)):=(cR o rfl);have u4:x.cell? ⟨w.heap.size+1,4,none⟩=some (.int .i64 (z.at_:Int)):=(cR o rfl);have bZ:=aa x (w.heap.size+1) 0 _ _ o;have b6:=aa x (w.heap.size+1) 1 _ _ o;have b0:=aa x (w.heap.size+1) 2 _ _ o;have b2:=aa x (w.heap.size+1) 3 _ _ o;have b7:=aa x (w.heap.size+1) 4 _ _ o;change Hid _ at o;clear au;dsimp only)
 all_goals
  go_wp2;obtain⟨a0,aJ⟩:=kF x (w.heap.size+1) 109 _ _ _ _ _ (.string z.pl.key) (.int .i64 z.pl.num) (.bool z.mark) (.int .i64 (z.size:Int)) (.int .i64 (z.at_:Int)) o.out;have ak:=(ar.mono (S':=λj=>j=w.heap.size+1) fE).trans aJ iL;refine bodyPost_ret (yW rfl _ _ _ _ _ _ _ rfl a0 Tryz.underlying109 rfl (by kernel_rfl)) rfl ⟨rfl,⟨ba,a6,aX,aN,al.kept ak (λj l Z=>?_) (λj l Z=>?_),λj l=>(ab j l).imp id (λh=>by omega)⟩,?_⟩;.have:=an.out j l;omega
  .rcases ab j l with aL|aL;.have:=W.out j aL;omega
   .omega
  .exact((aB.mono iL).trans M (λ_ h=>.inl (.inr h))).trans ak (λj l=>.inr (by omega))
end prog
end Go.Proofs.YtcoengihaobddaaGreatDoor

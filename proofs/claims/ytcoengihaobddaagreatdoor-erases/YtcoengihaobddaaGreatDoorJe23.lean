/- Part 23 of 50 of a proof: Rem6, Rem7 -/
import Derived.Test.YtcoengihaobddaaGreatDoorJe22
set_option maxHeartbeats 8000000
set_option linter.unusedVariables false
set_option linter.unusedSimpArgs false
set_option maxRecDepth 8000
namespace Go.Proofs.YtcoengihaobddaaGreatDoor
namespace prog
open Go.ChangeShapes Go.WideShapes Go.ChangeAt Go.RowKit disk ref
open keys (zg zd zq zl)
structure QD (bc bd:Nat) (S:Nat->Prop) (D:Dk) (C:Ck) (es:List En) (c:Nat) (es2:List En) (C2:Ck):Prop where
 go:∀(w:World) (T:Nat->Prop) (r:Int) (g cap:Nat),0<=r->r<=4611686018427380000->Cw w bc bd S T {D with reads:=r} C->w.ownsRow 0 109 5 (.slice (some ⟨g,0,none⟩) es.length cap) es.length (zj es)->¬S g->¬T g->
  Calls Tryz.prog 180 #[.agg #[.int .u8 4,.slice (some ⟨g,0,none⟩) es.length cap],.pointer (some ⟨bc,0,none⟩),.int .i64 c] w λx w'=>x=.returned (.agg #[.int .u8 4,.slice (some ⟨g,0,none⟩) es2.length cap])/\w'.ownsRow 0 109 5 (.slice (some ⟨g,0,none⟩) es2.length cap) es2.length (zj es2)/\(∃(n:Int) (T':Nat->Prop),0<=n/\n<=3/\Cw w' bc bd S T' {D with reads:=r+n} C2/\∀j,T' j->T j\/w.heap.size<=j)/\Kept (λj=>j=bd\/T j\/j=g) w w'
theorem QD.reads{e bd:Nat}{S:Nat->Prop}{D:Dk}{C:Ck}{b:List En}{c:Nat}{a:List En}{d:Ck}(h:QD e bd S D C b c a d)(r:Int):QD e bd S {D with reads:=r} C b c a d:=⟨h.go⟩
theorem Ur(w:World)(a:Option Addr)(n cap:Nat)(f:List Value)(e:w.ownsRow 0 109 5 (.slice a n cap) n f)(c m d:Nat)(b:List En)(q:b.length=m)(p:w.ownsRow 0 109 5 (.slice (some ⟨c,0,none⟩) m d) m (zj b))(t:1<=m)(s:n<=1000)(r:m<=1000):
 ∃g k w',(JJ #[.slice a n cap,.slice (some ⟨c,0,none⟩) m d]).run Tryz.prog w=.ok (.slice (some ⟨g,0,none⟩) (n+m) k) w'/\w'.ownsRow 0 109 5 (.slice (some ⟨g,0,none⟩) (n+m) k) (n+m) (f++zj b)/\w.grownBy w' (Value.slice a n cap).ownBlock/\((Value.slice a n cap).ownBlock=some g\/g=w.heap.size)/\g<w'.heap.size:=by
 obtain⟨o,l,i,j,h⟩:=info_parts Tryz.infoEntry;exact run_append_lies (P:=Tryz.prog) (w:=w) 207 207 0 109 o _ 5 48 Tryz.underlying207 l i j h rfl (by omega) (.slice a n cap) n f e ⟨c,0,none⟩ m d (zj b) (by rw [yD,q]) (p.cells (g:=c) rfl) (vv _) (by omega) (by unfold maxLen;omega) (by omega) (ai _) _ rfl
structure WC (b bd k n1 cap1 m cap2:Nat) (a1:Option Addr) (ev eu:List En) (w2:World) (g2 g3 cp:Nat) (w3 W4:World):Prop where
 c0:w2.cell? ⟨b,0,none⟩=some (.int .u8 (k:Int))
 c1:w2.cell? ⟨b,1,none⟩=some (.slice a1 n1 cap1)
 lt:b<w2.heap.size
 run:(JJ #[.slice a1 n1 cap1,.slice (some ⟨g2,0,none⟩) m cap2]).run Tryz.prog w2=.ok (.slice (some ⟨g3,0,none⟩) (n1+m) cp) w3
 d1:w3.cell? ⟨b,1,none⟩=some (.slice a1 n1 cap1)
 df:w3.frozen? ⟨b,1,none⟩=false
 w4:w3.setCell ⟨b,1,none⟩ (.slice (some ⟨g3,0,none⟩) (n1+m) cp)=W4
 blk:W4.heap[b]? =some (.cells #[.int .u8 (k:Int),.slice (some ⟨g3,0,none⟩) (n1+m) cp] 209 (0,0))
 own:W4.ownsRow 0 109 5 (.slice (some ⟨g3,0,none⟩) (n1+m) cp) (n1+m) (zj (eu++ev))
 kept:Kept (λj=>j=b\/(Value.slice a1 n1 cap1).ownBlock=some j) w2 W4
 at_:(Value.slice a1 n1 cap1).ownBlock=some g3\/g3=w2.heap.size
 cap:n1+m<=cp/\cp<=9223372036854775807
theorem BZ{s B:World}{b bd k d a m f:Nat}{v G:Option Addr}{w n:List En}(I:s.heap[b]? =some (.cells #[.int .u8 (k:Int),.slice v d a] 209 (0,0)))(y:s.ownsRow 0 109 5 (.slice v d a) d (zj w))(q:∀j,(Value.slice v d a).ownBlock=some j->j≠b/\j≠bd/\j<s.heap.size)(O:b≠bd)(R:Kept (λj=>j=bd) s.drew B)
 (r:B.ownsRow 0 109 5 (.slice G m f) m (zj n)) (U:n.length=m) (J:1<=m) (X:d<=6) (W:m<=6):∃e,G=some ⟨e,0,none⟩/\∃o A l T,WC b bd k d a m f v n w B e o A l T:=by
 have H:=(lT I);have E:=((Kept.drew (λ_=>False) s).mono fE).trans R iL;have i:=(E.block b H O).trans I;have t:=(lT i);have L:=E.owns y (λj u=>(q j u).2.1)
 obtain⟨e,rfl⟩:∃e,G=some ⟨e,0,none⟩:=by
  rcases r.2 with⟨_,ac⟩|⟨g,c,K,z,_⟩;.omega
  .simp only [Value.slice.injEq] at z;exact⟨g,z.1⟩
 obtain⟨o,A,l,F,p,C,D,Z⟩:=Ur B v d a (zj w) L e m f n U r J (by omega) (by omega);have N:=Kept.grown C (λj u=>u);have x:=(N.block b t (λV=>(q b V).1 rfl)).trans i;have P:=Kept.setCell (S:=λj=>j=b) l ⟨b,1,none⟩ (.slice (some ⟨o,0,none⟩) (d+m) A) rfl
 have Y:o≠b:=by
  rcases D with h|h;.exact(q o h).1
  .omega
 have M:zj (w++n)=zj w++zj n:=by simp [zj]
 refine⟨e,rfl,o,A,l,_,cR i rfl,cR i rfl,t,F,cR x rfl,aa l b 1 _ _ x,rfl,heap_setCell_same l b 1 _ _ _ x,?_,(N.mono (λ_ h=>.inr h)).trans P (λ_ h=>.inl (.inl h)),D,?_⟩
 .rw [M];exact P.owns p (λj u ab=>by simp [Value.ownBlock] at u;omega)
 .rcases p.2 with⟨y,r⟩|⟨ae,Q,K,z,_,ad,y,r,_⟩;.cases y
  .cases z;unfold maxLen at r;omega
theorem Bp{w:World}{g n cap:Nat}{a:List En}(f:a.length=n)(h:w.ownsRow 0 109 5 (.slice (some ⟨g,0,none⟩) n cap) n (zj a))(i:Nat)(x:i<a.length)(k:ByteArray)(e:Int):
 ((w.setCell ⟨g,i*5,none⟩ (.string k)).setCell ⟨g,i*5+1,none⟩ (.int .i64 e)).ownsRow 0 109 5 (.slice (some ⟨g,0,none⟩) n cap) n (zj (a.set i ⟨⟨k,e⟩,a[i].mark,a[i].size,a[i].at_⟩)):=by
 rcases h.2 with⟨t,_⟩|⟨D,s,b,y,u,v,B,q,C,z⟩;.cases t
 .cases y;have j:a=a.take i++a[i]::a.drop (i+1):=by rw [<-aL,aA]
  have l:zj a=zj (a.take i)++(qE a[i]++zj (a.drop (i+1))):=by
   conv=>lhs;rw [j]
   rw [yf,jx]
  have c:(zj (a.take i)).length=i*5:=by rw [yD,ay];congr 1;omega
  have d:zj (a.set i ⟨⟨k,e⟩,a[i].mark,a[i].size,a[i].at_⟩)=(zj a).take (i*5)++[.string k,.int .i64 e]++(zj a).drop (i*5+2):=by
   rw [iw,aB x,yf,jx,l];generalize zj (a.take i)=A at*;have o:(A++(qE a[i]++zj (a.drop (i+1)))).take (i*5)=A:=by rw [<-c];exact iR
   have m:(A++(qE a[i]++zj (a.drop (i+1)))).drop (i*5+2)=(qE a[i]++zj (a.drop (i+1))).drop 2:=by rw [<-c];exact lh _
   rw [o,m];simp [qE]
  have p:i*5+[Value.string k,Value.int .i64 e].length<=b.size:=by simp only [ae,ix];omega
  have r:=qg g 109 [.string k,.int .i64 e] (i*5) w b v p;refine⟨by rw [yD,eQ,f],.inr ⟨g,cap,_,rfl,u,r,B,q,?_,?_⟩⟩
  .simp;omega
  .show (b.toList.take (i*5)++[Value.string k,Value.int .i64 e]++b.toList.drop (i*5+2)).take (n*5)=_;rw [d,<-z];rw [mR,ao (by simp;omega)];congr 1;.rw [iJ,eE (by omega)]
   .rw [mJ];congr 1;simp;omega
section
attribute [local go_sem ↓] bO
theorem X3(A bd:Nat)(S:Nat->Prop)(D:Dk)(C:Ck)(m:List UInt8)(cI:qP (C.look D 2) m)(b:List En)(c9:b.length<=6)(c r:Nat)(c6:max c 1=r)(ap:r<b.length)(B i:Nat)(bc:b[r-1].at_=B)(b1:b[r].at_=i+21)(b9:B<65536)(ck:B≠2)(dB:i<979)(k:Nat)(a4:k=4\/k=5)(d f:List En)(aQ:∀e∈d,e.Ok)(bo:∀e∈f,e.Ok)(bQ:k=4->∀e∈d,e.mark=false/\e.size=0)(bA:k=4->∀e∈f,e.mark=false/\e.size=0)(bY:d.length<=6)(bW:f.length<=6)(cA:1<=f.length)(bT:C.look D B=zo (zc k d))(b3:C.look D ((i+21:Nat):Int)=zo (zc k f))(dT:C.ws.length<800)
 (U:List En) (aA:Ck) (R:((d++f).length<=6/\U=b.eraseIdx r/\aA=(C.put B (zo (zc k (d++f)))).free m i)\/(6<(d++f).length/\U=b.set r ⟨((d++f).getD ((d++f).length/2) dh).pl,b[r].mark,b[r].size,b[r].at_⟩/\aA=(C.put B (zo (zc k ((d++f).take ((d++f).length/2))))).put (i+21) (zo (zc k ((d++f).drop ((d++f).length/2)))))):
 QD A bd S D C b c U aA:=by
 refine⟨λw T y g cap cS dY Y ag aT bV=>?_⟩;obtain⟨q,rfl⟩:∃q,r=q+1:=⟨r-1,by omega⟩;have dS:Hid (Cw w A bd S T {D with reads:=y} C):=Y;have dj:Hid (qP (C.look D 2) m):=cI;have dv:Hid (w.ownsRow 0 109 5 (.slice (some ⟨g,0,none⟩) b.length cap) b.length (zj b)):=ag;have c7:Hid (∀e∈d,e.Ok):=aQ;have dd:Hid (∀e∈f,e.Ok):=bo;have cC:Hid (k=4->∀e∈d,e.mark=false/\e.size=0):=bQ;have cT:Hid (k=4->∀e∈f,e.mark=false/\e.size=0):=bA;have co:Hid (C.look D B=zo (zc k d)):=bT;have df:Hid (C.look D ((i+21:Nat):Int)=zo (zc k f)):=b3;have d1:bd<w.heap.size:=Y.disk.lt bd Y.disk.bdS;have aM:Hid (∀j,T j->j<w.heap.size):=Y.chg.lt;have bi:Hid (∀j,S j->j<w.heap.size):=Y.disk.lt;have bw:=(ag.lt g rfl).2;have bP:Hid (¬S g):=aT;have ab:Hid (¬T g):=bV;have ce:g≠bd:=λe=>aT (by rw [e];exact Y.disk.bdS);have c3:Hid (max c 1=q+1):=c6
 have bx:Hid (w.cell? ⟨g,q*5+4,none⟩=some (.int .i64 (B:Int))/\w.cell? ⟨g,(q+1)*5+4,none⟩=some (.int .i64 ((i:Int)+21))):=by have db:ql w (λ_=>True) (some ⟨g,0,none⟩) b:=ql.of_own ag (λ_ _=>eR) (by omega);obtain⟨-, -, -, -, aZ, -⟩:=db.cells q (by omega);obtain⟨-, -, -, -, a9, -⟩:=db.cells (q+1) ap;simp only [Nat.add_sub_cancel] at bc;rw [bc] at aZ;rw [b1] at a9;simp only [aV] at aZ a9;exact⟨aZ,by rw [a9];simp⟩
 change Hid _ at R;clear Y cI ag aQ bo bQ bA bT b3 aT bV c6 bc b1;have au:Hid (Kept (λ_=>False) w ((w.alloc (.cells #[.int .u8 4,.slice (some ⟨g,0,none⟩) b.length cap] 209)).alloc (.cells #[.int .u8 0,.slice none 0 0] 209))):=Kept.alloc2 _ _ _;have bU:Hid (((w.alloc (.cells #[.int .u8 4,.slice (some ⟨g,0,none⟩) b.length cap] 209)).alloc (.cells #[.int .u8 0,.slice none 0 0] 209)).heap[w.heap.size]? =some (.cells #[.int .u8 4,.slice (some ⟨g,0,none⟩) b.length cap] 209 (0,0))):=((Kept.alloc (λ_=>False) _ _).block w.heap.size (by simp) id).trans (heap_alloc_new w _);have cB:Hid (((w.alloc (.cells #[.int .u8 4,.slice (some ⟨g,0,none⟩) b.length cap] 209)).alloc (.cells #[.int .u8 0,.slice none 0 0] 209)).heap[w.heap.size+1]? =some (.cells #[.int .u8 0,.slice none 0 0] 209 (0,0))):=heap_alloc2_new w _ _;have d2:((w.alloc (.cells #[.int .u8 4,.slice (some ⟨g,0,none⟩) b.length cap] 209)).alloc (.cells #[.int .u8 0,.slice none 0 0] 209)).heap.size=w.heap.size+2:=by simp
 go_enter Tryz.func180,Tryz.ntmps180;go_wp2_with fail
 case' inl=>
  have e:(Value.int .i64 1)=.int .i64 ((q:Int)+1):=by have:=c3.out;congr 1;omega
  conv=>arg 4;rw [e]
  clear e
 case' inr=>
  have e:(Value.int .i64 (c:Int))=.int .i64 ((q:Int)+1):=by have:=c3.out;congr 1;omega
  conv=>arg 4;rw [e]
  clear e
 all_goals
  clear h;generalize ((w.alloc (.cells #[.int .u8 4,.slice (some ⟨g,0,none⟩) b.length cap] 209)).alloc (.cells #[.int .u8 0,.slice none 0 0] 209))=aw at*;have dc:aw.cell? ⟨w.heap.size,1,none⟩=some (.slice (some ⟨g,0,none⟩) b.length cap):=cR bU.out rfl;have de:aw.cell? ⟨g,q*5+4,none⟩=some (.int .i64 (B:Int)):=(au.cell (a:=⟨g,q*5+4,none⟩) bw id).trans bx.1;have da:aw.cell? ⟨g,(q+1)*5+4,none⟩=some (.int .i64 ((i:Int)+21)):=(au.cell (a:=⟨g,(q+1)*5+4,none⟩) bw id).trans bx.2;have d0:(q:Int)+1<(b.length:Int):=by omega
  have dU:(q:Int)<(b.length:Int):=by omega
  have dH:(0:Int)<=(q:Int)+1:=by omega
  have dX:IntKind.i64.wrap ((q:Int)+1-1)=(q:Int):=by rw [Int.add_sub_cancel];exact IntWalk.i64_in _ (by omega)
  have dV:IntKind.i64.wrap (q:Int)=(q:Int):=IntWalk.i64_in _ (by omega);go_region_held3 (λw'=>w'.cell? ⟨w.heap.size,1,none⟩=some (.slice (some ⟨g,0,none⟩) b.length cap)/\w'.cell? ⟨g,q*5+4,none⟩=some (.int .i64 (B:Int))/\w'.cell? ⟨g,(q+1)*5+4,none⟩=some (.int .i64 ((i:Int)+21))) (go_keep) (fail);have cN:Hid (Cw aw.drew A bd S T {D with reads:=y} C):=(dS.kept0 au).kept0 (Kept.drew _ aw)
  have bO:Hid (∀(u:World) (al:Int),0<=al->al<=1->Cw u A bd S T {D with reads:=y+al} C->Calls Tryz.prog 174 #[.iface 142 (.pointer (some ⟨A,0,none⟩)),.int .i64 ((i:Int)+21)] u λe w'=>∃bm W,e=.returned (.agg #[.int .u8 (k:Int),.slice bm f.length W])/\(∃n:Int,0<=n/\n<=1/\Cw w' A bd S T {D with reads:=y+al+n} C)/\Kept (λi=>i=bd) u w'/\w'.ownsRow 0 109 5 (.slice bm f.length W) f.length (zj f)):=λu al cZ E aQ=>by have:=yR u A bd S T {D with reads:=y+al} C aQ (by show 0<=y+al;omega) (by show y+al<=_;omega) (i+21) (by omega) k f a4 dd cT bW (by rw [zH];exact df);rw [show ((i+21:Nat):Int)=(i:Int)+21 from by omega] at this;exact this.mono (λe w' ⟨bm,W,dM,dF,dm,_,dA,_⟩=>⟨bm,W,dM,dF,dm,dA⟩)
  go_wp2_with fail;refine(yR aw.drew A bd S T {D with reads:=y} C cN cS (by show y<=_;omega) B b9 k d a4 c7 cC bY (by rw [zH];exact co)).mono ?_;rintro c0 o ⟨Z,x,rfl,⟨G,cf,b5,b4⟩,bg,bn,af,a7⟩;have bz:Hid (Cw o A bd S T {D with reads:=y+G} C):=b4;have ea:aw.heap.size<=o.heap.size:=bg.size;have a5:Hid (Kept (λj=>j=bd) aw o):=((Kept.drew (λ_=>False) aw).mono fE).trans bg iL;have bt:Hid (o.ownsRow 0 109 5 (.slice Z d.length x) d.length (zj d)):=af;have a0:Hid (∀j,(Value.slice Z d.length x).ownBlock=some j->aw.heap.size<=j/\j<o.heap.size):=λj l=>⟨a7 j l,(af.lt j l).2⟩;clear b4 bg bn af a7 dc de da;go_wp2_with fail;have aJ:Hid (Kept (λ_=>False) o (o.alloc (.cells #[.int .u8 (k:Int),.slice Z d.length x] 209))):=Kept.alloc _ _ _;have aD:Hid ((o.alloc (.cells #[.int .u8 (k:Int),.slice Z d.length x] 209)).heap[o.heap.size]? =some (.cells #[.int .u8 (k:Int),.slice Z d.length x] 209 (0,0))):=heap_alloc_new o _;have d6:(o.alloc (.cells #[.int .u8 (k:Int),.slice Z d.length x] 209)).heap.size=o.heap.size+1:=by simp
  generalize (o.alloc (.cells #[.int .u8 (k:Int),.slice Z d.length x] 209))=aB at*;have bC:Hid (Cw aB.drew A bd S T {D with reads:=y+G} C):=(bz.kept0 aJ).kept0 (Kept.drew _ aB);have dq:aB.cell? ⟨o.heap.size,1,none⟩=some (.slice Z d.length x):=cR aD.out rfl;have cG:=aa aB o.heap.size 1 _ _ aD.out;have cx:∀(w:World) (bp ai:Nat),(Instr.field 209 (.agg #[.int .u8 (k:Int),.slice (some ⟨bp,0,none⟩) f.length ai]) 1).run Tryz.prog w=.ok (.slice (some ⟨bp,0,none⟩) f.length ai) w:=λ_ _ _=>by kernel_rfl
  go_region_law (go_simp;go_at_call 174;refine(bO _ G cf b5 (by exact bC)).mono ?_;rintro c0 bk ⟨eh,ai,rfl,⟨K,dE,dn,bE⟩,a2,aF⟩;have ac:Hid (Cw bk A bd S T {D with reads:=y+G+K} C):=bE;have ba:Hid (Kept (λj=>j=bd) aB.drew bk):=a2;obtain⟨bp,rfl,H,N,ds,s,O⟩:=BZ (bd:=bd) aD (aJ.owns bt nF) (λj l=>by have:=a0.out j l;omega) (by omega) a2 aF rfl cA bY bW;have J:Hid (WC o.heap.size bd k d.length x f.length ai Z f d bk bp H N ds s):=O;have bl:=O.c0;have aZ:=O.c1;have a9:=O.lt;have dR:=O.run;have dD:=O.d1;have dy:=O.df;clear bE a2 aF O;dsimp only)
 all_goals
  rw [J.w4];have b0:Hid (s.heap[o.heap.size]? =_):=J.blk;have d8:aB.heap.size<=bk.heap.size:=ba.size;have eb:=J.kept.size;have ay:Hid (∀j,(Value.slice Z d.length x).ownBlock=some j->aw.heap.size<=j/\j<o.heap.size):=a0.out;have bh:Hid (Kept (λj=>j=bd) aw bk):=((a5.trans aJ fE).trans (Kept.drew (λ_=>False) aB) fE).trans ba iL
  have aR:Hid (∀j,j<aw.heap.size->¬(j=o.heap.size\/(Value.slice Z d.length x).ownBlock=some j)):=λj l p=>by
   rcases p with h|h;.omega
   .have:=ay.out j h;omega
  have ae:Hid (Kept (λj=>j=bd\/aw.heap.size<=j) aw s):=(bh.mono iL).trans J.kept (λj l=>.inl (.inr (by
   rcases l with h|h;.omega
   .exact(ay j h).1)))
  have cw:Hid (Cw s A bd S T {D with reads:=y+G+K} C):=ac.kept J.kept (λj l p=>aR j (by have:=bi.out j l;omega) p) (λj l p=>aR j (by have:=aM.out j l;omega) p)
  have c4:Hid (aw.heap.size<=H/\H≠o.heap.size):=by
   rcases J.at_ with h|h;.have:=ay.out H h;exact⟨this.1,by omega⟩
   .exact⟨by omega,by omega⟩
  have cJ:Hid (s.ownsRow 0 109 5 (.slice (some ⟨H,0,none⟩) (d.length+f.length) N) (d.length+f.length) (zj (d++f))):=J.own;have bD:Hid (d.length+f.length<=N/\N<=9223372036854775807):=J.cap;have cj:Hid (s.heap[w.heap.size]? =_):=(ae.block _ (by omega) (by omega)).trans bU.out;have cl:Hid (s.heap[w.heap.size+1]? =_):=(ae.block _ (by omega) (by omega)).trans cB.out;have cU:Hid (s.ownsRow 0 109 5 (.slice (some ⟨g,0,none⟩) b.length cap) b.length (zj b)):=ae.owns (au.owns dv nF) (λj l p=>by simp [Value.ownBlock] at l;omega);clear bl aZ a9 dR dD dy dq cG cx;have cX:s.cell? ⟨o.heap.size,0,none⟩=some (.int .u8 (k:Int)):=cR b0.out rfl;have cD:s.cell? ⟨o.heap.size,1,none⟩=some (.slice (some ⟨H,0,none⟩) (d.length+f.length) N):=cR b0.out rfl
  have cr:Hid (((room k:Nat):Int)=6):=by show ((room k:Nat):Int)=6;rcases a4 with rfl|rfl<;>decide
  have ao:k<=6:=by omega
  have ec:o.heap.size<s.heap.size:=by omega
  clear J ba ac aJ aD bC bO bz a5 bt a0 aR bh;go_wp2_with fail;go_region_held3 (λw'=>w'.cell? ⟨o.heap.size,0,none⟩=some (.int .u8 (k:Int))/\w'.cell? ⟨o.heap.size,1,none⟩=some (.slice (some ⟨H,0,none⟩) (d.length+f.length) N)) (go_keep) ((go_at_call 129;refine(vo _ k ao).mono ?_;rintro e F ⟨rfl,bJ⟩;rw [bJ,cr.out];clear bJ F));have aG:Hid (Kept (λ_=>False) s s.drew):=Kept.drew _ s;have bL:Hid (Cw s.drew A bd S T {D with reads:=y+G+K} C):=cw.kept0 aG.out
  have b2:Hid (ql s.drew (λj=>j=H) (some ⟨H,0,none⟩) (d++f)):=by have E:=aG.owns cJ nF;rw [<-ah] at E;exact ql.of_own E (λj l=>by simp [Value.ownBlock] at l;exact l.symm) (by rw [ah];omega)
  have a6:Hid (∀e∈d++f,e.Ok):=λe dC=>(aj.1 dC).elim (c7 e) (dd e);have am:Hid (∀j,w.heap.size<=j->¬T j):=λj l p=>by have:=aM.out j p;omega
  have az:Hid (s.drew.heap[w.heap.size]? =_):=cj.out;have be:Hid (s.drew.heap[w.heap.size+1]? =_):=cl.out;have bf:Hid (s.drew.ownsRow 0 109 5 (.slice (some ⟨g,0,none⟩) b.length cap) b.length (zj b)):=aG.owns cU nF;have aU:Hid (Kept (λj=>j=bd) w s.drew):=((au.mono fE).trans ae (λj l=>l.elim .inl (λh=>.inr (by omega)))).trans aG fE;have b8:s.drew.cell? ⟨o.heap.size,0,none⟩=some (.int .u8 (k:Int)):=cX;have cb:s.drew.cell? ⟨o.heap.size,1,none⟩=some (.slice (some ⟨H,0,none⟩) (d.length+f.length) N):=cD;have d5:s.drew.heap.size=s.heap.size:=rfl;clear cX cD;have aX:s.drew.cell? ⟨w.heap.size,1,none⟩=some (.slice (some ⟨g,0,none⟩) b.length cap):=cR az.out rfl;have aN:Hid (d.length+f.length=(d++f).length):=by show _=_;rw [ah]
  generalize s.drew=X at*;rcases R.out with⟨I,V,an⟩|⟨I,V,an⟩
  .have av:Hid (U=b.eraseIdx (q+1)):=V;have ac:Hid (aA=(C.put B (zo (zc k (d++f)))).free m i):=an;have cK:(d.length:Int)+(f.length:Int)<=6:=by rw [ah] at I;omega
   have ax:Hid ((d++f).length<=6):=I;clear V an I R;go_wp2_with fail;refine(v8 X A bd S T _ C bL _ _ N k a4 (d++f) b2 a6 ax B (by omega) _ aN.symm).mono ?_;rintro c0 a3 ⟨rfl,⟨aP,bI,bH⟩,ao⟩;have cy:Hid (Cw a3 A bd S aP {D with reads:=y+G+K} (C.put B (zo (zc k (d++f))))):=bI;have aO:Hid (∀j,aP j->T j\/X.heap.size<=j):=bH;have c2:Hid (Kept T X a3):=ao;have d3:=ao.size;clear bI bH ao
   have di:Hid (∀j,j<X.heap.size->¬T j->¬(j=bd\/aP j)\/j=bd):=λj l c9=>by
    by_cases h:j=bd;.exact .inr h
    .exact .inl (λp=>p.elim h (λdQ=>(aO j dQ).elim c9 (λh=>by omega)))
   have dg:=qH C B (zo (zc k (d++f)));have cE:Hid (qP ((C.put B (zo (zc k (d++f)))).look {D with reads:=y+G+K} 2) m):=by show qP _ m;rw [zH];exact dj.put B _ ck
   go_wp2_with fail;refine(fL a3 A bd S aP _ _ cy m cE (by show 0<=y+G+K;omega) (by show y+G+K<=_;omega) (by omega) i dB).mono ?_;rintro c0 Q ⟨rfl,⟨ct,cc,dP,dG,bs,bK⟩,aS⟩;have cn:Hid (Cw Q A bd S cc {D with reads:=y+G+K+ct} ((C.put B (zo (zc k (d++f)))).free m i)):=bs;have bS:Hid (∀j,cc j->aP j\/a3.heap.size<=j):=bK;have cY:Hid (Kept (λj=>j=bd\/aP j) a3 Q):=aS;have d7:=aS.size;clear bs bK aS
   have ad:Hid (Kept (λj=>j=bd\/T j) X Q):=(c2.mono (λ_ h=>.inr h)).trans cY (λj l=>by
    rcases l with h|h;.exact .inl (.inl h)
    .exact(aO j h).imp .inr id)
   have bM:Hid (∀j,w.heap.size<=j->¬(j=bd\/T j)):=λj l p=>p.elim (λh=>by omega) (am j l);have bb:Hid (Q.heap[w.heap.size]? =_):=(ad.block _ (by omega) (bM _ (aC _))).trans az.out;have cg:Hid (Q.heap[w.heap.size+1]? =_):=(ad.block _ (by omega) (bM _ (by omega))).trans be.out;have cH:Hid (Q.ownsRow 0 109 5 (.slice (some ⟨g,0,none⟩) b.length cap) b.length (zj b)):=ad.owns bf (λj l p=>by simp [Value.ownBlock] at l;subst l;exact p.elim ce ab);have c8:Q.cell? ⟨w.heap.size,1,none⟩=some (.slice (some ⟨g,0,none⟩) b.length cap):=cR bb.out rfl;clear aX b8 cb
   have cL:Hid (Calls Tryz.prog 181 #[.slice (some ⟨g,0,none⟩) b.length cap,.int .i64 ((q:Int)+1),.int .i64 ((q:Int)+1+1)] Q λe w'=>e=.returned (.slice (some ⟨g,0,none⟩) (b.length-1) cap)/\w'.ownsRow 0 109 5 (.slice (some ⟨g,0,none⟩) (b.length-1) cap) (b.length-1) (zj (b.eraseIdx (q+1)))/\Kept (λj=>j=g) Q w'):=by have:=fK Q g b.length cap b rfl cH (q+1) ap (by omega);simp only [Int.natCast_add,Int.cast_ofNat_Int] at this;exact this
   go_wp2_with fail;refine cL.mono ?_;rintro c0 M ⟨rfl,bq,ar⟩;have cO:Hid (Kept (λj=>j=g) Q M):=ar;have dZ:=ar.size;have L:Hid (M.heap[w.heap.size]? =_):=(ar.block _ (by omega) (by omega)).trans bb.out;have t:Hid (M.heap[w.heap.size+1]? =_):=(ar.block _ (by omega) (by omega)).trans cg.out;change Hid _ at bq;clear ar c8;have dJ:M.cell? ⟨w.heap.size,0,none⟩=some (.int .u8 4):=cR L.out rfl;have ef:M.cell? ⟨w.heap.size,1,none⟩=some (.slice (some ⟨g,0,none⟩) b.length cap):=cR L.out rfl;have eg:=aa M w.heap.size 1 _ _ L.out;have dL:M.cell? ⟨w.heap.size+1,0,none⟩=some (.int .u8 0):=cR t.out rfl;have dN:M.cell? ⟨w.heap.size+1,1,none⟩=some (.slice none 0 0):=cR t.out rfl;have cP:=aa M (w.heap.size+1) 0 _ _ t.out;have cz:=aa M (w.heap.size+1) 1 _ _ t.out;go_wp2;have d9:=heap_setCell_same M w.heap.size 1 _ _ (.slice (some ⟨g,0,none⟩) (b.length-1) cap) L.out;have ci:=Kept.setCell (S:=λj=>j=w.heap.size) M ⟨w.heap.size,1,none⟩ (.slice (some ⟨g,0,none⟩) (b.length-1) cap) rfl;have cs:=(ci.block _ (by omega) (by omega)).trans t.out;generalize M.setCell ⟨w.heap.size,1,none⟩ (.slice (some ⟨g,0,none⟩) (b.length-1) cap)=ak at*;have aW:=heap_setCell_same ak (w.heap.size+1) 0 _ _ (.int .u8 4) cs;have a8:=heap_setCell_same _ (w.heap.size+1) 1 _ _ (.slice (some ⟨g,0,none⟩) (b.length-1) cap) aW;have bj:Kept (λj=>j=w.heap.size+1) ak ((ak.setCell ⟨w.heap.size+1,0,none⟩ (.int .u8 4)).setCell ⟨w.heap.size+1,1,none⟩ (.slice (some ⟨g,0,none⟩) (b.length-1) cap)):=(Kept.setCell (S:=λj=>j=w.heap.size+1) ak ⟨w.heap.size+1,0,none⟩ _ rfl).trans (Kept.setCell (S:=λj=>j=w.heap.size+1) _ ⟨w.heap.size+1,1,none⟩ _ rfl) iL;have bZ:Kept (λj=>j=g\/j=w.heap.size\/j=w.heap.size+1) Q ((ak.setCell ⟨w.heap.size+1,0,none⟩ (.int .u8 4)).setCell ⟨w.heap.size+1,1,none⟩ (.slice (some ⟨g,0,none⟩) (b.length-1) cap)):=((cO.mono iL).trans ci (λj l=>.inl (.inr (.inl l)))).trans bj (λj l=>.inl (.inr (.inr l)));have aq:U.length=b.length-1:=by rw [av.out,iP ap]
   refine bodyPost_ret (v:=.agg #[.int .u8 4,.slice (some ⟨g,0,none⟩) (b.length-1) cap]) (results_cell_row Tryz.results180 _ _ (w.heap.size+1) 209 _ (0,0) _ rfl a8 Tryz.underlying209 rfl (by kernel_rfl)) rfl ⟨?_,?_,⟨G+K+ct,cc,by omega,by omega,?_,λj l=>?_⟩,?_⟩;.rw [aq]
   .rw [aq,av.out];exact bj.owns (ci.owns bq (λj l bl=>by simp [Value.ownBlock] at l;omega)) (λj l bl=>by simp [Value.ownBlock] at l;omega)
   .rw [ac.out]
    have E:=cn.kept bZ (λj l p=>by
     have:=bi.out j l;rcases p with h|h;.exact bP (h▸l)
     .omega) (λj l p=>by
     have c5:T j\/X.heap.size<=j:=(bS j l).elim (aO j) (λh=>.inr (by omega));rcases c5 with E|E
     .have:=aM.out j E;rcases p with h|h;.exact ab (h▸E)
      .omega
     .omega)
    simp only [eG] at E ⊢;exact E
   .rcases bS j l with E|E;.exact(aO j E).imp id (λh=>by omega)
    .exact .inr (by omega)
   .refine((aU.mono iL).trans ad (λj l=>.inl (l.imp id .inl))).trans bZ (λj l=>?_);rcases l with h|h;.exact .inl (.inr (.inr h))
    .exact .inr (by omega)
  .have av:Hid (U=b.set (q+1) ⟨((d++f).getD ((d++f).length/2) dh).pl,b[q+1].mark,b[q+1].size,b[q+1].at_⟩):=V;have ac:Hid (aA=(C.put B (zo (zc k ((d++f).take ((d++f).length/2))))).put (i+21) (zo (zc k ((d++f).drop ((d++f).length/2))))):=an;have cK:¬(d.length:Int)+(f.length:Int)<=6:=by rw [ah] at I;omega
   have ax:Hid (6<(d++f).length):=I;clear V an I R;have aH:(d++f).length/2<(d++f).length:=by have:=ax.out;omega
   obtain⟨z,b7⟩:∃z,(d++f)[(d++f).length/2]'aH=z:=⟨_,rfl⟩
   have dp:Hid ((d++f).getD ((d++f).length/2) dh=z):=by show _=_;rw [aE,aI aH,i9];exact b7
   have cu:Hid (Calls Tryz.prog 200 #[.agg #[.int .u8 (k:Int),.slice (some ⟨H,0,none⟩) (d.length+f.length) N],.pointer (some ⟨A,0,none⟩),.int .i64 (B:Int),.int .i64 ((i:Int)+21)] X.drew λr w'=>r=.returned (.agg #[.string z.pl.key,.int .i64 z.pl.num])/\(∃cW,Cw w' A bd S cW {D with reads:=y+G+K} aA/\∀j,cW j->T j\/X.heap.size<=j)/\Kept T X.drew w'):=by have:=Qn X.drew A bd S T {D with reads:=y+G+K} C (bL.kept0 (Kept.drew _ X)) (λj=>j=H) (λj l p=>am j (by rw [l];have:=c4.1;omega) p) (some ⟨H,0,none⟩) N k a4 (d++f) (b2.kept (Kept.drew (λ_=>False) X) nF) a6 ((d++f).length/2) rfl aH (by rw [<-aN.out];omega) (by rw [<-aN.out];exact bD.1) bD.2 B (i+21) (by omega);rw [b7,<-ac.out,<-aN.out,show ((i+21:Nat):Int)=(i:Int)+21 from by omega] at this;exact this
   clear b7 aH;have cp:Hid (ql X (λ_=>True) (some ⟨g,0,none⟩) b):=ql.of_own bf (λ_ _=>eR) (by omega)
   have br:Hid (∀(u:World) (dk:Nat),u.ownsRow 0 109 5 (.slice (some ⟨g,0,none⟩) b.length cap) b.length (zj b)->u.frozen? ⟨g,dk,none⟩=false):=λu dk aQ=>by
    rcases aQ.2 with⟨cZ,_⟩|⟨ee,W,dW,bo,ed,du,_⟩;.cases cZ
    .cases bo;exact aa u g dk _ _ du
   obtain⟨b6,ch, -, -, -, -, -⟩:=cp.cells (q+1) ap;simp only [aV] at b6 ch;have cm:Hid (X.cell? ⟨g,(q+1)*5,none⟩=_):=b6;have cF:Hid (X.cell? ⟨g,(q+1)*5+1,none⟩=_):=ch;have cq:Hid (X.cell? ⟨o.heap.size,0,none⟩=some (.int .u8 (k:Int))):=b8;have cM:Hid (X.cell? ⟨o.heap.size,1,none⟩=some (.slice (some ⟨H,0,none⟩) (d.length+f.length) N)):=cb;have cv:Hid (X.cell? ⟨w.heap.size,1,none⟩=some (.slice (some ⟨g,0,none⟩) b.length cap)):=aX;have cV:¬w.heap.size=g:=by omega
   have dx:¬g=w.heap.size:=by omega
   have dI:¬g=o.heap.size:=by omega
   have bB:g<X.heap.size:=by omega
   have bv:w.heap.size<X.heap.size:=by omega
   have bu:o.heap.size<X.heap.size:=by omega
   have aK:Hid (¬T w.heap.size/\¬T o.heap.size):=⟨am _ (aC _),am _ (by omega)⟩;clear b6 ch;go_wp2_with fail;go_region_held3 (λw'=>w'.cell? ⟨w.heap.size,1,none⟩=some (.slice (some ⟨g,0,none⟩) b.length cap)/\w'.cell? ⟨o.heap.size,0,none⟩=some (.int .u8 (k:Int))/\w'.cell? ⟨o.heap.size,1,none⟩=some (.slice (some ⟨H,0,none⟩) (d.length+f.length) N)) (go_keep) ((go_at_call 200;refine cu.mono ?_;rintro c0 F ⟨rfl,⟨ca,bX,bR⟩,P⟩;have cQ:Hid (Cw F A bd S ca {D with reads:=y+G+K} aA):=bX;have bF:Hid (∀j,ca j->T j\/X.heap.size<=j):=bR;have aL:Hid (Kept T X.drew F):=P;have dz:F.cell? ⟨w.heap.size,1,none⟩=some (.slice (some ⟨g,0,none⟩) b.length cap):=(P.cell (a:=⟨w.heap.size,1,none⟩) bv aK.1).trans cv.out;have dK:F.cell? ⟨o.heap.size,0,none⟩=some (.int .u8 (k:Int)):=(P.cell (a:=⟨o.heap.size,0,none⟩) bu aK.2).trans cq.out;have dw:F.cell? ⟨o.heap.size,1,none⟩=some (.slice (some ⟨H,0,none⟩) (d.length+f.length) N):=(P.cell (a:=⟨o.heap.size,1,none⟩) bu aK.2).trans cM.out;have a1:Hid (F.ownsRow 0 109 5 (.slice (some ⟨g,0,none⟩) b.length cap) b.length (zj b)):=P.owns ((Kept.drew (λ_=>False) X).owns bf nF) (λj l p=>by simp [Value.ownBlock] at l;subst l;exact ab p);have dl:F.cell? ⟨g,(q+1)*5,none⟩=some (.string b[q+1].pl.key):=(P.cell (a:=⟨g,(q+1)*5,none⟩) bB ab).trans cm.out;have dt:F.cell? ⟨g,(q+1)*5+1,none⟩=some (.int .i64 b[q+1].pl.num):=(P.cell (a:=⟨g,(q+1)*5+1,none⟩) bB ab).trans cF.out;have dO:=br.out F ((q+1)*5) a1.out;have dr:=br.out F ((q+1)*5+1) a1.out;clear bX bR P));have d4:X.heap.size<=F.heap.size:=aL.size;have c1:Hid (F.heap[w.heap.size]? =_):=(aL.block _ bv aK.1).trans az.out;have cd:Hid (F.heap[w.heap.size+1]? =_):=(aL.block _ (show w.heap.size+1<X.heap.size by omega) (am _ (by omega))).trans be.out;have bN:=Bp rfl a1 (q+1) ap z.pl.key z.pl.num;have aY:Hid (Kept (λj=>j=g) F ((F.setCell ⟨g,(q+1)*5,none⟩ (.string z.pl.key)).setCell ⟨g,(q+1)*5+1,none⟩ (.int .i64 z.pl.num))):=(Kept.setCell (S:=λj=>j=g) F ⟨g,(q+1)*5,none⟩ _ rfl).trans (Kept.setCell (S:=λj=>j=g) _ ⟨g,(q+1)*5+1,none⟩ _ rfl) iL;change Hid _ at bN;clear dz dK dw dl dt dO dr;generalize ((F.setCell ⟨g,(q+1)*5,none⟩ (.string z.pl.key)).setCell ⟨g,(q+1)*5+1,none⟩ (.int .i64 z.pl.num))=ak at*;have L:Hid (ak.heap[w.heap.size]? =_):=(aY.block _ (by omega) cV).trans c1.out;have t:Hid (ak.heap[w.heap.size+1]? =_):=(aY.block _ (by omega) (by omega)).trans cd.out;have dJ:ak.cell? ⟨w.heap.size,0,none⟩=some (.int .u8 4):=cR L.out rfl;have dL:ak.cell? ⟨w.heap.size+1,0,none⟩=some (.int .u8 0):=cR t.out rfl;have dN:ak.cell? ⟨w.heap.size+1,1,none⟩=some (.slice none 0 0):=cR t.out rfl;have cP:=aa ak (w.heap.size+1) 0 _ _ t.out;have cz:=aa ak (w.heap.size+1) 1 _ _ t.out;clear aX b8 cb;go_wp2;have aW:=heap_setCell_same ak (w.heap.size+1) 0 _ _ (.int .u8 4) t.out;have a8:=heap_setCell_same _ (w.heap.size+1) 1 _ _ (.slice (some ⟨g,0,none⟩) b.length cap) aW;have bj:Kept (λj=>j=w.heap.size+1) ak ((ak.setCell ⟨w.heap.size+1,0,none⟩ (.int .u8 4)).setCell ⟨w.heap.size+1,1,none⟩ (.slice (some ⟨g,0,none⟩) b.length cap)):=(Kept.setCell (S:=λj=>j=w.heap.size+1) ak ⟨w.heap.size+1,0,none⟩ _ rfl).trans (Kept.setCell (S:=λj=>j=w.heap.size+1) _ ⟨w.heap.size+1,1,none⟩ _ rfl) iL;have bG:Kept (λj=>j=g\/j=w.heap.size+1) F ((ak.setCell ⟨w.heap.size+1,0,none⟩ (.int .u8 4)).setCell ⟨w.heap.size+1,1,none⟩ (.slice (some ⟨g,0,none⟩) b.length cap)):=(aY.mono iL).trans bj (λ_ h=>.inl (.inr h));have aq:U.length=b.length:=by rw [av.out,eQ]
   refine bodyPost_ret (v:=.agg #[.int .u8 4,.slice (some ⟨g,0,none⟩) b.length cap]) (results_cell_row Tryz.results180 _ _ (w.heap.size+1) 209 _ (0,0) _ rfl a8 Tryz.underlying209 rfl (by kernel_rfl)) rfl ⟨?_,?_,⟨G+K,ca,by omega,by omega,?_,λj l=>(bF j l).imp id (λh=>by omega)⟩,?_⟩;.rw [aq]
   .rw [aq,av.out,dp.out];exact bj.owns bN (λj l bl=>by simp [Value.ownBlock] at l;omega)
   .have E:=cQ.kept bG (λj l p=>by
     have:=bi.out j l;rcases p with h|h;.exact bP (h▸l)
     .omega) (λj l p=>by
     rcases bF j l with E|E
     .have:=aM.out j E;rcases p with h|h;.exact ab (h▸E)
      .omega
     .omega)
    simp only [eG] at E ⊢;exact E
   .refine(((aU.mono iL).trans (Kept.drew (λ_=>False) X) fE).trans aL (λj l=>.inl (.inr (.inl l)))).trans bG (λj l=>?_);rcases l with h|h;.exact .inl (.inr (.inr h))
    .exact .inr (by omega)
end
structure fM (bc bd:Nat) (S T:Nat->Prop) (D:Dk) (C:Ck) (h at_:Nat) (p:Pl) (v:List Value) (s ok:Bool) (C':Ck):Prop where
 go:∀(w:World) (r:Int),0<=r->r+(4*h:Nat)<=4611686018427370000->Cw w bc bd S T {D with reads:=r} C->
  Calls Tryz.prog 141 #[.pointer (some ⟨bc,0,none⟩),.int .i64 at_,.agg #[.string p.key,.int .i64 p.num]] w λx w'=>x=.returned (.tuple #[.agg v.toArray,.bool s,.bool ok])/\(∃(n:Int) (T':Nat->Prop),0<=n/\n<=(4*h+1:Nat)/\Cw w' bc bd S T' {D with reads:=r+n} C'/\∀j,T' j->T j\/w.heap.size<=j)/\Kept (λj=>j=bd\/T j) w w'
structure Dd (bc bd:Nat) (S T:Nat->Prop) (D:Dk) (C:Ck) (at_:Nat) (p:Pl) (M:Nat) (v:List Value) (s ok:Bool) (C':Ck):Prop where
 go:∀(w0:World) (n0:Int),0<=n0->n0<=1->Cw w0 bc bd S T {D with reads:=D.reads+n0} C->Calls Tryz.prog 141 #[.pointer (some ⟨bc,0,none⟩),.int .i64 at_,.agg #[.string p.key,.int .i64 p.num]] w0 λr w'=>r=.returned (.tuple #[.agg v.toArray,.bool s,.bool ok])/\(∃(n:Int) (T':Nat->Prop),0<=n/\n<=M/\Cw w' bc bd S T' {D with reads:=D.reads+n0+n} C'/\∀j,T' j->T j\/w0.heap.size<=j)/\Kept (λj=>j=bd\/T j) w0 w'
structure Wt (w W:World) (p:Pl):Prop where
 kept:Kept (λ_=>False) w W
 pl:W.heap[w.heap.size]? =some (.cells #[.string p.key,.int .i64 p.num] 107 (0,0))
 res:W.heap[w.heap.size+1]? =some (.cells #[.string ⟨#[]⟩,.int .i64 0,.bool false,.int .i64 0,.int .i64 0] 109 (0,0))
 size:W.heap.size=w.heap.size+2
theorem De(w:World)(p:Pl):Wt w ((w.alloc (.cells #[.string p.key,.int .i64 p.num] 107)).alloc (.cells #[.string ⟨#[]⟩,.int .i64 0,.bool false,.int .i64 0,.int .i64 0] 109)) p:=
 ⟨Kept.alloc2 _ _ _,((Kept.alloc (λ_=>False) _ _).block w.heap.size (by simp) id).trans (heap_alloc_new w _),heap_alloc2_new w _ _,by simp⟩
theorem xB{P:Program}{fn:Func}{p u v:Tmp}{a:TypeId}(h:fn.results=#[.cell p a,.tmp u,.tmp v])(tmps:Array Value)(w:World)(g:Nat)(t:TypeId)(b:Array Value)(d:Nat×Nat)(e:TypeDesc)
 (f:tmps.getD p undef=.pointer (some ⟨g,0,none⟩)) (k:w.heap[g]? =some (.cells b t d))
 (j:P.underlying a=some e) (i:(match e with|.struct _|.array _ _=>true|_=>false)=true) (l:(P.info? a).map (·.size)=some b.size):
 (results fn tmps).run P w=.ok (.tuple #[.agg b,tmps.getD u undef,tmps.getD v undef]) w:=by
 have c:tmps[p]?.getD undef=.pointer (some ⟨g,0,none⟩):=by simpa using f
 simp [results,h,c,asAddr,run_loadVar_row w g t a b d e k j i l]
theorem kI(w:World)(n b:Nat)(t:TypeId)(i k l m g f e c a d:Value)(h:w.heap[b]? =some (.cells #[i,k,l,m,g] t (0,0))):
 ((((((w.drewN n).setCell ⟨b,0,none⟩ f).setCell ⟨b,1,none⟩ e).setCell ⟨b,2,none⟩ c).setCell ⟨b,3,none⟩ a).setCell ⟨b,4,none⟩ d).heap[b]? =some (.cells #[f,e,c,a,d] t (0,0))/\Kept (λj=>j=b) w ((((((w.drewN n).setCell ⟨b,0,none⟩ f).setCell ⟨b,1,none⟩ e).setCell ⟨b,2,none⟩ c).setCell ⟨b,3,none⟩ a).setCell ⟨b,4,none⟩ d):=by
 obtain⟨p,o⟩:=vK (w.drewN n) b t i k l m g f e c a d h;exact⟨p,Kept.trans (b:=w.drewN n) kD o iL⟩
theorem Df{a b:Pl}(h:a≠b):(a.key.toList==b.key.toList)=false\/((a.key.toList==b.key.toList)=true/\(a.num==b.num)=false):=by
 by_cases c:a.key=b.key
 .refine .inr ⟨by rw [c];simp,?_⟩;have:¬a.num=b.num:=λe=>h (by cases a;cases b;simp only at c e;rw [c,e]);simpa using this
 .exact .inl (by have:=mt yr.1 c;simpa using this)
theorem Ja(w:World)(x bd:Nat)(S T:Nat->Prop)(D:Dk)(C:Ck)(h:Cw w x bd S T D C)(W:0<=D.reads)(aq:D.reads<=4611686018427380000)(s:Nat)(ab:s<65536)(c:List En)(I:∀e∈c,e.Ok)(O:c.length<=6)(ac:xi c)(X:C.look D s=zo (zc 5 c))(p:Pl)(t:∀aD:zr c p<c.length,c[zr c p].pl≠p):
 Calls Tryz.prog 141 #[.pointer (some ⟨x,0,none⟩),.int .i64 s,.agg #[.string p.key,.int .i64 p.num]] w λak w'=>ak=.returned (.tuple #[.agg qI.toArray,.bool false,.bool false])/\(∃n:Int,0<=n/\n<=1/\Cw w' x bd S T {D with reads:=D.reads+n} C)/\Kept (λj=>j=bd) w w':=by
 have Q:Hid _:=h;have ar:=h.disk.lt bd h.disk.bdS;change Hid _ at I ac X t;clear h;have A:Hid _:=De w p;unfold qI;go_enter Tryz.func141,Tryz.ntmps141;go_wp2_with fail;generalize ((w.alloc (.cells #[.string p.key,.int .i64 p.num] 107)).alloc (.cells #[.string ⟨#[]⟩,.int .i64 0,.bool false,.int .i64 0,.int .i64 0] 109))=ap at*;refine(yR ap x bd S T D C (Q.kept0 A.kept) W (by omega) s ab 5 c (.inr rfl) I (λh=>absurd h (by decide)) O X).mono ?_;rintro r k ⟨a,cap,rfl,⟨ao,ad,U,K⟩,o,l,F,M⟩;have av:=A.size;have am:=o.size;have q:Hid (k.heap[w.heap.size]? =_):=(o.block _ (by omega) (by omega)).trans A.pl;have N:Hid (k.heap[w.heap.size+1]? =_):=(o.block _ (by omega) (by omega)).trans A.res;change Hid _ at K o l;clear F M;have ai:k.cell? ⟨w.heap.size,0,none⟩=some (.string p.key):=cR q.out rfl;have ag:k.cell? ⟨w.heap.size,1,none⟩=some (.int .i64 p.num):=cR q.out rfl;have ah:w.heap.size<k.heap.size:=by omega
 go_wp2_with fail;have H:Hid (Kept (λ_=>False) k (k.alloc (.cells #[.int .u8 5,.slice a c.length cap] 209))):=Kept.alloc _ _ _;have V:Hid ((k.alloc (.cells #[.int .u8 5,.slice a c.length cap] 209)).heap[k.heap.size]? =some (.cells #[.int .u8 5,.slice a c.length cap] 209 (0,0))):=heap_alloc_new k _;have ax:(k.alloc (.cells #[.int .u8 5,.slice a c.length cap] 209)).heap.size=k.heap.size+1:=by simp
 generalize (k.alloc (.cells #[.int .u8 5,.slice a c.length cap] 209))=aj at*;refine(kf aj _ a cap c (l.kept H nF) ac 5 p).mono ?_;rintro r f ⟨rfl,z⟩;have m:Hid (Kept (λ_=>False) k f):=H.trans z iL;have P:Hid (f.heap[k.heap.size]? =_):=(z.block _ (by omega) id).trans V.out;have y:Hid (f.heap[w.heap.size]? =_):=(m.block _ (by omega) id).trans q.out;have d:Hid (f.heap[w.heap.size+1]? =_):=(m.block _ (by omega) id).trans N.out;have v:Hid (ql f (λb=>ap.heap.size<=b) a c):=l.kept m nF;clear z ai ag;have aE:f.cell? ⟨w.heap.size,0,none⟩=some (.string p.key):=cR y.out rfl;have aK:f.cell? ⟨w.heap.size,1,none⟩=some (.int .i64 p.num):=cR y.out rfl;have aA:f.cell? ⟨k.heap.size,1,none⟩=some (.slice a c.length cap):=cR P.out rfl;have au:=jF c p
 have L:Hid (∀(B:World) (tmps:Array Value),B.heap[w.heap.size+1]? =some (.cells #[.string ⟨#[]⟩,.int .i64 0,.bool false,.int .i64 0,.int .i64 0] 109 (0,0))->Kept (λj=>j=w.heap.size+1) f B->tmps.getD 6 undef=.pointer (some ⟨w.heap.size+1,0,none⟩)->tmps.getD 7 undef=.bool false->tmps.getD 8 undef=.bool false->bodyPost Tryz.prog Tryz.f141 (λak w'=>ak=.returned (.tuple #[.agg #[.string ⟨#[]⟩,.int .i64 0,.bool false,.int .i64 0,.int .i64 0],.bool false,.bool false])/\(∃n:Int,0<=n/\n<=1/\Cw w' x bd S T {D with reads:=D.reads+n} C)/\Kept (λj=>j=bd) w w') .ret {tmps:=tmps,defers:=[]} B):=by intro B tmps ae k3 an al af;refine bodyPost_ret (xB rfl _ _ _ _ _ _ _ an ae Tryz.underlying109 rfl (by kernel_rfl)) rfl ⟨by rw [al,af],⟨ao,ad,U,(K.kept0 m).kept k3 (λj E R=>by have:=Q.disk.lt j E;omega) (λj E R=>by have:=Q.chg.lt j E;omega)⟩,?_⟩;exact(((A.kept.mono fE).trans o iL).trans m fE).trans k3 (λj E=>.inr (by omega))
 have aJ:f.cell? ⟨w.heap.size+1,0,none⟩=some (.string ⟨#[]⟩):=cR d.out rfl;have aN:f.cell? ⟨w.heap.size+1,1,none⟩=some (.int .i64 0):=cR d.out rfl;have aI:f.cell? ⟨w.heap.size+1,2,none⟩=some (.bool false):=cR d.out rfl;have aB:f.cell? ⟨w.heap.size+1,3,none⟩=some (.int .i64 0):=cR d.out rfl;have aO:f.cell? ⟨w.heap.size+1,4,none⟩=some (.int .i64 0):=cR d.out rfl;have aL:=aa f (w.heap.size+1) 0 _ _ d.out;have az:=aa f (w.heap.size+1) 1 _ _ d.out;have aF:=aa f (w.heap.size+1) 2 _ _ d.out;have aP:=aa f (w.heap.size+1) 3 _ _ d.out;have aG:=aa f (w.heap.size+1) 4 _ _ d.out;by_cases u:zr c p=c.length
 .have Z:(((zr c p:Nat):Int)==(c.length:Int))=true:=by rw [u];simp
  clear t;generalize zr c p=i at*;clear u;go_wp2_with fail;go_quiet (fail);go_wp2;exact L _ _ (kI f _ _ _ _ _ _ _ _ _ _ _ _ _ d).1 (kI f _ _ _ _ _ _ _ _ _ _ _ _ _ d).2 rfl rfl rfl
 .have J:zr c p<c.length:=by omega
  have Z:(((zr c p:Nat):Int)==(c.length:Int))=false:=beq_false_of_ne (by omega);have G:=t.out J;obtain⟨g,aQ,rfl⟩:=v.base (by omega);obtain⟨R,aH, -, -, -, -, -⟩:=v.cells (zr c p) J;have hap:=Df G;clear G t;generalize c[zr c p].pl.key=aM at*;generalize c[zr c p].pl.num=aC at*;generalize zr c p=i at*;have aw:(i:Int)<(c.length:Int):=by omega
  rcases hap with Y|⟨Y,ay⟩
  all_goals
   go_wp2_with fail;go_quiet (fail);go_wp2;exact L _ _ (kI f _ _ _ _ _ _ _ _ _ _ _ _ _ d).1 (kI f _ _ _ _ _ _ _ _ _ _ _ _ _ d).2 rfl rfl rfl
theorem Jb(w:World)(V bd:Nat)(S T:Nat->Prop)(D:Dk)(C:Ck)(h:Cw w V bd S T D C)(aR:0<=D.reads)(bF:D.reads<=4611686018427380000)(F:Nat)(aY:F<65536)(c:List En)(ac:∀e∈c,e.Ok)(aw:c.length<=6)(aL:xi c)(aS:C.look D F=zo (zc 5 c))(p:Pl)(i:Nat)(ao:zr c p=i)(aD:i<c.length)(ah:c[i].pl=p)(bB:C.ws.length<700)(E:List En)(H:c.eraseIdx i=E)(s:Bool)(ak:decide ((E.length:Int)<3)=s):
 Calls Tryz.prog 141 #[.pointer (some ⟨V,0,none⟩),.int .i64 F,.agg #[.string p.key,.int .i64 p.num]] w λaZ w'=>aZ=.returned (.tuple #[.agg (qE c[i]).toArray,.bool s,.bool true])/\(∃(n:Int) (aW:Nat->Prop),0<=n/\n<=1/\Cw w' V bd S aW {D with reads:=D.reads+n} (C.put F (zo (zc 5 E)))/\∀j,aW j->T j\/w.heap.size<=j)/\Kept (λj=>j=bd\/T j) w w':=by
 have bz:Hid _:=h;have y:E.length=c.length-1:=by rw [<-H,iP aD]
 have aP:Hid (∀aZ∈E,aZ.Ok):=λaZ a5=>ac aZ (List.mem_of_mem_eraseIdx (by rw [H];exact a5));have bH:=h.disk.lt bd h.disk.bdS;have ad:Hid _:=h.chg.lt;have aq:Hid _:=h.disk.lt;change Hid _ at ac aL aS ao H ak;clear h;have Y:Hid _:=De w p;obtain⟨z,ax⟩:∃z,c[i]=z:=⟨_,rfl⟩;rw [ax] at ah ⊢;have bD:(z.pl.key.toList==p.key.toList)=true:=by rw [ah];simp
 have bL:(z.pl.num==p.num)=true:=by rw [ah];simp
 change Hid _ at ax;clear ah;unfold qE;go_enter Tryz.func141,Tryz.ntmps141;go_wp2_with fail;generalize ((w.alloc (.cells #[.string p.key,.int .i64 p.num] 107)).alloc (.cells #[.string ⟨#[]⟩,.int .i64 0,.bool false,.int .i64 0,.int .i64 0] 109))=bT at*;refine(yR bT V bd S T D C (bz.kept0 Y.kept) aR (by omega) F aY 5 c (.inr rfl) ac (λh=>absurd h (by decide)) aw aS).mono ?_;rintro r b ⟨a,cap,rfl,⟨bg,aN,aG,au⟩,M,A,x,Z⟩;have bI:=Y.size;have be:=M.size;have P:Hid (b.heap[w.heap.size]? =_):=(M.block _ (by omega) (by omega)).trans Y.pl;have aB:Hid (b.heap[w.heap.size+1]? =_):=(M.block _ (by omega) (by omega)).trans Y.res;obtain⟨g,bS,rfl⟩:=A.base (by omega)
 obtain rfl:bS=0:=by
  rcases x.2 with⟨br,_⟩|⟨bW,ba,bC,aU,_⟩;.cases br
  .simp only [Value.slice.injEq,iA,Addr.mk.injEq] at aU;exact aU.1.2.1
 have bR:=Z g rfl;have bK:=(x.lt g rfl).2;change Hid _ at au M A x;clear Z;have a8:b.cell? ⟨w.heap.size,0,none⟩=some (.string p.key):=cR P.out rfl;have bn:b.cell? ⟨w.heap.size,1,none⟩=some (.int .i64 p.num):=cR P.out rfl;have bp:w.heap.size<b.heap.size:=by omega
 go_wp2_with fail;have an:Hid (Kept (λ_=>False) b (b.alloc (.cells #[.int .u8 5,.slice (some ⟨g,0,none⟩) c.length cap] 209))):=Kept.alloc _ _ _;have aQ:Hid ((b.alloc (.cells #[.int .u8 5,.slice (some ⟨g,0,none⟩) c.length cap] 209)).heap[b.heap.size]? =some (.cells #[.int .u8 5,.slice (some ⟨g,0,none⟩) c.length cap] 209 (0,0))):=heap_alloc_new b _;have bQ:(b.alloc (.cells #[.int .u8 5,.slice (some ⟨g,0,none⟩) c.length cap] 209)).heap.size=b.heap.size+1:=by simp
 generalize (b.alloc (.cells #[.int .u8 5,.slice (some ⟨g,0,none⟩) c.length cap] 209))=a9 at*;refine(kf a9 _ _ cap c (A.kept an nF) aL 5 p).mono ?_;rintro r l ⟨rfl,R⟩;rw [ao.out];have K:Hid (Kept (λ_=>False) b l):=an.trans R iL;have bf:=R.size;have O:Hid (l.heap[b.heap.size]? =_):=(R.block _ (by omega) id).trans aQ.out;have W:Hid (l.heap[w.heap.size]? =_):=(K.block _ (by omega) id).trans P.out;have f:Hid (l.heap[w.heap.size+1]? =_):=(K.block _ (by omega) id).trans aB.out;have aC:Hid _:=A.kept K nF;clear R a8 bn;have bl:l.cell? ⟨w.heap.size,0,none⟩=some (.string p.key):=cR W.out rfl;have bb:l.cell? ⟨w.heap.size,1,none⟩=some (.int .i64 p.num):=cR W.out rfl;have a3:l.cell? ⟨b.heap.size,0,none⟩=some (.int .u8 5):=cR O.out rfl;have bj:l.cell? ⟨b.heap.size,1,none⟩=some (.slice (some ⟨g,0,none⟩) c.length cap):=cR O.out rfl;have B:=aC.cells i aD;rw [ax.out] at B;simp only [aV] at B;obtain⟨U,a7,bk,bx,bm, -, -⟩:=B;have bG:((i:Int)==(c.length:Int))=false:=beq_false_of_ne (by omega);have bO:(i:Int)<(c.length:Int):=by omega
 have bq:l.cell? ⟨w.heap.size+1,0,none⟩=some (.string ⟨#[]⟩):=cR f.out rfl;have bt:l.cell? ⟨w.heap.size+1,1,none⟩=some (.int .i64 0):=cR f.out rfl;have bo:l.cell? ⟨w.heap.size+1,2,none⟩=some (.bool false):=cR f.out rfl;have a2:l.cell? ⟨w.heap.size+1,3,none⟩=some (.int .i64 0):=cR f.out rfl;have bv:l.cell? ⟨w.heap.size+1,4,none⟩=some (.int .i64 0):=cR f.out rfl;have bs:=aa l (w.heap.size+1) 0 _ _ f.out;have bi:=aa l (w.heap.size+1) 1 _ _ f.out;have a4:=aa l (w.heap.size+1) 2 _ _ f.out;have bA:=aa l (w.heap.size+1) 3 _ _ f.out;have a6:=aa l (w.heap.size+1) 4 _ _ f.out;have bN:¬b.heap.size=w.heap.size+1:=by omega
 go_wp2_with fail;go_quiet (fail);go_wp2_with fail;obtain⟨am,I⟩:=kI l nq (w.heap.size+1) 109 _ _ _ _ _ (.string z.pl.key) (.int .i64 z.pl.num) (.bool z.mark) (.int .i64 (z.size:Int)) (.int .i64 (z.at_:Int)) f.out;change Hid _ at am I;clear bq bt bo a2 bv bs bi a4 bA a6 U a7 bk bx bm bl bb a3 bj;generalize ((((((l.drewN nq).setCell ⟨w.heap.size+1,0,none⟩ (.string z.pl.key)).setCell ⟨w.heap.size+1,1,none⟩ (.int .i64 z.pl.num)).setCell ⟨w.heap.size+1,2,none⟩ (.bool z.mark)).setCell ⟨w.heap.size+1,3,none⟩ (.int .i64 (z.size:Int))).setCell ⟨w.heap.size+1,4,none⟩ (.int .i64 (z.at_:Int)))=X at*;have bM:=I.size;have aO:Hid _:=I.owns (K.owns x nF) (λj d U=>by simp [Value.ownBlock] at d;omega);have aA:Hid (X.heap[b.heap.size]? =_):=(I.block _ (by omega) (by omega)).trans O.out;refine(fK X g c.length cap c rfl aO i aD (by omega)).mono ?_;rintro r q ⟨rfl,ae,L⟩;rw [H.out] at ae;have aX:Hid (Kept (λj=>j=g) X q):=L;have bE:=L.size;have aF:Hid (q.heap[w.heap.size+1]? =_):=(L.block _ (by omega) (by omega)).trans am.out;have G:Hid (q.heap[b.heap.size]? =_):=(L.block _ (by omega) (by omega)).trans aA.out;change Hid _ at ae;clear L;have bw:q.cell? ⟨b.heap.size,0,none⟩=some (.int .u8 5):=cR G.out rfl;have bu:q.cell? ⟨b.heap.size,1,none⟩=some (.slice (some ⟨g,0,none⟩) c.length cap):=cR G.out rfl;have bh:=aa q b.heap.size 1 _ _ G.out;go_wp2_with fail;have aT:Hid ((q.setCell ⟨b.heap.size,1,none⟩ (.slice (some ⟨g,0,none⟩) (c.length-1) cap)).heap[b.heap.size]? =some (.cells #[.int .u8 5,.slice (some ⟨g,0,none⟩) (c.length-1) cap] 209 (0,0))):=heap_setCell_same q b.heap.size 1 _ _ _ G.out;have Q:Hid (Kept (λj=>j=b.heap.size) q (q.setCell ⟨b.heap.size,1,none⟩ (.slice (some ⟨g,0,none⟩) (c.length-1) cap))):=Kept.setCell (S:=λj=>j=b.heap.size) q ⟨b.heap.size,1,none⟩ _ rfl;generalize (q.setCell ⟨b.heap.size,1,none⟩ (.slice (some ⟨g,0,none⟩) (c.length-1) cap))=ag at*;clear bw bu bh;have bP:=Q.size;have av:Hid (ag.heap[w.heap.size+1]? =_):=(Q.block _ (by omega) (by omega)).trans aF.out;have aM:Hid _:=Q.owns ae (λj d U=>by simp [Value.ownBlock] at d;omega)
 have aI:Hid (ql ag (λj=>j=g) (some ⟨g,0,none⟩) E):=by have:=aM.out;rw [<-y] at this;exact ql.of_own this (λj d=>by simp [Value.ownBlock] at d;exact d.symm) (by omega)
 have af:Hid (Kept (λj=>w.heap.size<=j) b ag):=(((K.mono fE).trans I (λj d=>.inl (by omega))).trans aX (λj d=>.inl (by omega))).trans Q (λj d=>.inl (by omega));have aJ:Hid _:=au.kept af (λj d az=>by have:=aq.out j d;omega) (λj d az=>by have:=ad.out j d;omega);have ay:Hid _:=((Y.kept.mono fE).trans M iL).trans af (λj d=>.inr d);refine(v8 ag V bd S T _ C aJ _ _ cap 5 (.inr rfl) E aI aP (by omega) F (by omega) _ y).mono ?_;rintro r v ⟨rfl,⟨bc,ap,ab⟩,J⟩;have bJ:=J.size;have aj:Hid (∀j,w.heap.size<=j->¬T j):=λj d az=>by have:=ad.out j az;omega
 have o:Hid (v.heap[w.heap.size+1]? =_):=(J.block _ (by omega) (aj _ (by omega))).trans av.out;have N:Hid (v.heap[b.heap.size]? =_):=(J.block _ (by omega) (aj _ (by omega))).trans aT.out;change Hid _ at ap ab J
 have aE:Hid (∀u,Calls Tryz.prog 182 #[.agg #[.int .u8 5,.slice (some ⟨g,0,none⟩) (c.length-1) cap]] u λe w'=>e=.returned (.bool s)/\Kept (λ_=>False) u w'):=λu=>by have:=QB u 5 (.inr rfl) (some ⟨g,0,none⟩) (c.length-1) cap;rw [<-y,ak.out] at this;rw [<-y];exact this
 have aK:Hid (∀u,Kept (λ_=>False) v u->u.heap[w.heap.size+1]? =some (.cells #[.string z.pl.key,.int .i64 z.pl.num,.bool z.mark,.int .i64 (z.size:Int),.int .i64 (z.at_:Int)] 109 (0,0))/\u.heap[b.heap.size]? =some (.cells #[.int .u8 5,.slice (some ⟨g,0,none⟩) (c.length-1) cap] 209 (0,0))):=λu k=>⟨(k.block _ (by omega) id).trans o,(k.block _ (by omega) id).trans N⟩;have bX:v.cell? ⟨w.heap.size+1,0,none⟩=some (.string z.pl.key):=cR o.out rfl;have b2:v.cell? ⟨w.heap.size+1,1,none⟩=some (.int .i64 z.pl.num):=cR o.out rfl;have b4:v.cell? ⟨w.heap.size+1,2,none⟩=some (.bool z.mark):=cR o.out rfl;have b5:v.cell? ⟨w.heap.size+1,3,none⟩=some (.int .i64 (z.size:Int)):=cR o.out rfl;have b1:v.cell? ⟨w.heap.size+1,4,none⟩=some (.int .i64 (z.at_:Int)):=cR o.out rfl;have b6:v.cell? ⟨b.heap.size,0,none⟩=some (.int .u8 5):=cR N.out rfl;have bU:v.cell? ⟨b.heap.size,1,none⟩=some (.slice (some ⟨g,0,none⟩) (c.length-1) cap):=cR N.out rfl;go_wp2_with fail
 go_region_law (go_simp;go_at_call 182;refine(aE v.drew).mono ?_;rintro r t ⟨rfl,al⟩;have ar:Hid _:=(Kept.drew (λ_=>False) v).trans al iL;have m:=(aK t ar).1;have u0:t.cell? ⟨w.heap.size+1,0,none⟩=some (.string z.pl.key):=(cR m rfl);have u1:t.cell? ⟨w.heap.size+1,1,none⟩=some (.int .i64 z.pl.num):=(cR m rfl);have u2:t.cell? ⟨w.heap.size+1,2,none⟩=some (.bool z.mark):=(cR m rfl);have u3:t.cell? ⟨w.heap.size+1,3,none⟩=some (.int .i64 (z.size:Int)):=(cR m rfl);have u4:t.cell? ⟨w.heap.size+1,4,none⟩=some (.int .i64 (z.at_:Int)):=(cR m rfl);have bY:=aa t (w.heap.size+1) 0 _ _ m;have bV:=aa t (w.heap.size+1) 1 _ _ m;have b3:=aa t (w.heap.size+1) 2 _ _ m;have bZ:=aa t (w.heap.size+1) 3 _ _ m;have b0:=aa t (w.heap.size+1) 4 _ _ m;change Hid _ at m;clear al;dsimp only)
 all_goals
  go_wp2;obtain⟨a1,aH⟩:=vK t (w.heap.size+1) 109 _ _ _ _ _ (.string z.pl.key) (.int .i64 z.pl.num) (.bool z.mark) (.int .i64 (z.size:Int)) (.int .i64 (z.at_:Int)) m.out;have ai:=(ar.mono (S':=λj=>j=w.heap.size+1) fE).trans aH iL;refine bodyPost_ret (xB rfl _ _ _ _ _ _ _ rfl a1 Tryz.underlying109 rfl (by kernel_rfl)) rfl ⟨rfl,⟨bg,bc,aN,aG,ap.kept ai (λj d U=>?_) (λj d U=>?_),λj d=>(ab j d).imp id (λh=>by omega)⟩,?_⟩;.have:=aq.out j d;omega
  .rcases ab j d with a0|a0;.have:=ad.out j a0;omega
   .omega
  .exact((ay.mono iL).trans J (λ_ h=>.inl (.inr h))).trans ai (λj d=>.inr (by omega))
end prog
end Go.Proofs.YtcoengihaobddaaGreatDoor

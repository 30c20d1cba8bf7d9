/- Part 20 of 36 of a proof: Ins8, Tr3, Tr4 -/
import Derived.Test.YtcoengihaobddaaGreatDoorJb19
set_option maxHeartbeats 8000000
set_option linter.unusedVariables false
set_option linter.unusedSimpArgs false
set_option maxRecDepth 8000
namespace Go.Proofs.YtcoengihaobddaaGreatDoor
namespace prog
open Go.ChangeShapes Go.WideShapes Go.ChangeAt Go.RowKit disk ref
open keys (zh zd zx zq)
theorem Xy(w:World)(M bd:Nat)(S T:Nat->Prop)(D:Dk)(C:Ck)(h:Cw w M bd S T D C)(m:List UInt8)(dR:qF (C.look D 2) m)(c9:0<=D.reads)(dz:Nat)(ev:dz<=1000)(ed:D.reads<=4611686018427380000)(B:Nat)(dg:B<65536)(es:List En)(a2:∀e∈es,e.Ok)(c7:∀e∈es,e.mark=false/\e.size=0)(cm:es.length<=6)(cQ:yL es)(cJ:C.look D B=zl (zc 4 es))(e:En)(dq:e.Ok)(du:C.ws.length<700)(G:Ck)(aj:List UInt8)(ap:qF (G.look D 2) aj)(di:G.ws.length<700)(c:Nat)(t:zH es e.pl=c)(cB:c<es.length)(d:En)(bh:d.Ok)(bz:Below M bd S T D C es[c].at_ e dz true (qr d) G)(s:List En)(ay:es.take (c+1)++d::es.drop (c+1)=s)(f:Bool)(v:List Value)(bp:Ck)(bN:List UInt8)(cb:G.more D.bs.length aj B 4 s=(f,v,bp,bN)):
 Calls Tryz.prog 137 #[.pointer (some ⟨M,0,none⟩),.int .i64 B,.agg (qr e).toArray] w λr w'=>r=.returned (.tuple #[.agg v.toArray,.bool f])/\(∃(n:Int) (c4:Nat->Prop),0<=n/\n<=dz+2/\Cw w' M bd S c4 {D with reads:=D.reads+n} bp/\∀j,c4 j->T j\/w.heap.size<=j)/\za (λj=>j=bd\/T j) w w':=by
 have df:Hid (qF (G.look D 2) aj):=ap;have en:Hid d.Ok:=bh;have c3:Hid (es.take (c+1)++d::es.drop (c+1)=s):=ay;have aZ:Hid (G.more D.bs.length aj B 4 s=(f,v,bp,bN)):=cb;have a5:s.length=es.length+1:=by rw [<-ay];simp only [ag,aC,ae,aS];omega
 have be:Hid (∀dh∈s,dh.Ok):=λdh aG=>by
  rw [<-ay] at aG;rcases ah.1 aG with aG|aG;.exact a2 dh (aP aG)
  .rcases ar.1 aG with rfl|aG;.exact bh
   .exact a2 dh (eK aG)
 clear ap bh ay cb;have bg:Hid _:=h;have dw:Hid (∀e∈es,e.mark=false/\e.size=0):=c7;have cP:Hid (∀e∈es,e.Ok):=a2;have cT:Hid (yL es):=cQ;change Hid _ at dR bz cJ;clear h a2 cQ dq c7;have ek:bd<w.heap.size:=bg.disk.lt bd bg.disk.bdS;have W:Hid (∀j,T j->j<w.heap.size):=bg.chg.lt;have aR:Hid (∀j,S j->j<w.heap.size):=bg.disk.lt;have aH:Hid (za (λ_=>False) w ((w.alloc (.cells (qr e).toArray 109)).alloc (.cells qx.toArray 109))):=za.alloc2 _ _ _;have bn:Hid (((w.alloc (.cells (qr e).toArray 109)).alloc (.cells qx.toArray 109)).heap[w.heap.size+1]? =some (.cells qx.toArray 109 (0,0))):=eF w _ _;have bD:Hid (((w.alloc (.cells (qr e).toArray 109)).alloc (.cells qx.toArray 109)).heap[w.heap.size]? =some (.cells (qr e).toArray 109 (0,0))):=((za.alloc (λ_=>False) _ _).block w.heap.size (by simp) id).trans (ac w _);have b6:((w.alloc (.cells (qr e).toArray 109)).alloc (.cells qx.toArray 109)).heap.size=w.heap.size+2:=by simp
 unfold qx at aH bn bD b6;unfold qr at aH bn bD b6 ⊢;go_enter Tryz.func137,Tryz.ntmps137;go_wp2_with fail;change Hid (za _ w ((w.alloc (.cells #[.string e.pl.key,.int .i64 e.pl.num,.bool e.mark,.int .i64 (e.size:Int),.int .i64 (e.at_:Int)] 109)).alloc (.cells #[.string ⟨#[]⟩,.int .i64 0,.bool false,.int .i64 0,.int .i64 0] 109))) at aH;generalize ((w.alloc (.cells #[.string e.pl.key,.int .i64 e.pl.num,.bool e.mark,.int .i64 (e.size:Int),.int .i64 (e.at_:Int)] 109)).alloc (.cells #[.string ⟨#[]⟩,.int .i64 0,.bool false,.int .i64 0,.int .i64 0] 109))=b1 at*;refine(yy b1 M bd S T D C (bg.kept0 aH) c9 (by omega) B dg 4 es (.inl rfl) cP (λ_=>dw) cm cJ).mono ?_;rintro r o ⟨a,u,rfl,⟨L,cK,cS,bs⟩,aO,ak,a0,bC⟩;have cz:Hid (za (λj=>j=bd) b1 o):=aO;have bY:Hid (o.ownsRow 0 109 5 (.slice a es.length u) es.length (zj es)):=a0;have dE:=aO.size;have aY:Hid (o.heap[w.heap.size]? =_):=(aO.block _ (by omega) (by omega)).trans bD.out;have ci:Hid (o.heap[w.heap.size+1]? =_):=(aO.block _ (by omega) (by omega)).trans bn.out;change Hid _ at bs bC ak;clear aO a0;have dB:o.cell? ⟨w.heap.size,0,none⟩=some (.string e.pl.key):=cR aY.out rfl;have dl:o.cell? ⟨w.heap.size,1,none⟩=some (.int .i64 e.pl.num):=cR aY.out rfl;have dm:w.heap.size<o.heap.size:=by omega
 have bx:∀j,(Value.slice a es.length u).ownBlock=some j->b1.heap.size<=j/\j<o.heap.size:=λj p=>⟨bC j p,(bY.lt j p).2⟩;have O:Hid (∀j,(Value.slice a es.length u).ownBlock=some j->b1.heap.size<=j/\j<o.heap.size):=bx;clear bx;go_wp2_with fail;have b3:Hid (za (λ_=>False) o (o.alloc (.cells #[.int .u8 4,.slice a es.length u] 209))):=za.alloc _ _ _;have c6:Hid ((o.alloc (.cells #[.int .u8 4,.slice a es.length u] 209)).heap[o.heap.size]? =some (.cells #[.int .u8 4,.slice a es.length u] 209 (0,0))):=ac o _;have ec:(o.alloc (.cells #[.int .u8 4,.slice a es.length u] 209)).heap.size=o.heap.size+1:=by simp
 generalize (o.alloc (.cells #[.int .u8 4,.slice a es.length u] 209))=dU at*;refine(jr dU _ a u es (ak.kept b3 nF) cT 4 e.pl).mono ?_;rintro r ai ⟨rfl,a1⟩;have a4:Hid (za (λ_=>False) o ai):=b3.trans a1 iL;have dW:=a1.size;have aX:Hid (ai.heap[o.heap.size]? =_):=(a1.block _ (by omega) id).trans c6.out;clear a1;have Z:Hid (ai.heap[w.heap.size]? =_):=(a4.block _ (by omega) id).trans aY.out;have cp:Hid (ai.heap[w.heap.size+1]? =_):=(a4.block _ (by omega) id).trans ci.out;have bL:ai.cell? ⟨w.heap.size,0,none⟩=some (.string e.pl.key):=cR Z.out rfl;have bM:ai.cell? ⟨w.heap.size,1,none⟩=some (.int .i64 e.pl.num):=cR Z.out rfl;have bF:ai.cell? ⟨w.heap.size,2,none⟩=some (.bool e.mark):=cR Z.out rfl;have bJ:ai.cell? ⟨w.heap.size,3,none⟩=some (.int .i64 (e.size:Int)):=cR Z.out rfl;have bH:ai.cell? ⟨w.heap.size,4,none⟩=some (.int .i64 (e.at_:Int)):=cR Z.out rfl;have dM:ai.cell? ⟨o.heap.size,0,none⟩=some (.int .u8 4):=cR aX.out rfl;have bI:ai.cell? ⟨o.heap.size,1,none⟩=some (.slice a es.length u):=cR aX.out rfl;have cV:Hid (zH es e.pl=c):=t;generalize zt es e.pl=i at*;clear t;go_wp2_with fail;refine(vy ai _ a u es (ak.kept a4 nF) cT 4 e.pl).mono ?_;rintro r k ⟨rfl,au⟩;rw [cV.out];have aE:Hid (za (λ_=>False) o k):=a4.trans au iL;have dK:=au.size;have aW:Hid (k.heap[o.heap.size]? =_):=(au.block _ (by omega) id).trans aX.out;have Q:Hid (k.heap[w.heap.size]? =_):=(au.block _ (by omega) id).trans Z.out;have bm:Hid (k.heap[w.heap.size+1]? =_):=(au.block _ (by omega) id).trans cp.out;have b2:Hid (qe k (λb=>b1.heap.size<=b) a es):=ak.kept aE nF;have cD:Hid (k.ownsRow 0 109 5 (.slice a es.length u) es.length (zj es)):=aE.owns bY nF;have bf:Hid (Cw k.drew M bd S T {D with reads:=D.reads+L} C):=(bs.kept0 aE).kept0 (za.drew _ k);have bq:Hid (za (λj=>j=bd\/T j) w k):=((aH.mono fE).trans cz (λ_ h=>.inl (.inl h))).trans aE fE;clear au bL bM bF bJ bH dM bI dB dl;obtain⟨g,aT,rfl⟩:=b2.base (by omega);obtain⟨-, -, -, -, cl, -, ef⟩:=b2.cells c cB;have ea:b1.heap.size<=g/\g<o.heap.size:=O.out g rfl;have ba:Hid (∀cw:World,Cw cw M bd S T {D with reads:=D.reads+L} C->_):=λcw c8=>bz.go cw L cK cS c8;generalize es[c].at_=cg at*;have bL:k.cell? ⟨w.heap.size,0,none⟩=some (.string e.pl.key):=cR Q.out rfl;have bM:k.cell? ⟨w.heap.size,1,none⟩=some (.int .i64 e.pl.num):=cR Q.out rfl;have bF:k.cell? ⟨w.heap.size,2,none⟩=some (.bool e.mark):=cR Q.out rfl;have bJ:k.cell? ⟨w.heap.size,3,none⟩=some (.int .i64 (e.size:Int)):=cR Q.out rfl;have bH:k.cell? ⟨w.heap.size,4,none⟩=some (.int .i64 (e.at_:Int)):=cR Q.out rfl;have bI:k.cell? ⟨o.heap.size,1,none⟩=some (.slice (some ⟨g,aT,none⟩) es.length u):=cR aW.out rfl;have dG:(c:Int)<(es.length:Int):=by omega
 have cc:∀j,w.heap.size<=j->¬(j=bd\/T j):=λj p t=>t.elim (λh=>by omega) (λh=>by have:=W.out j h;omega);have N:Hid (∀j,w.heap.size<=j->¬(j=bd\/T j)):=cc;clear cc;unfold qr at ba;have d2:¬k.heap.size=o.heap.size:=by omega
 have dL:¬k.heap.size=g:=by omega
 have dI:¬k.heap.size=w.heap.size:=by omega
 have av:Hid (za (λ_=>False) k k.drew):=za.drew _ k;have R:Hid (za (λ_=>False) k (k.alloc (.cells #[.string ⟨#[]⟩,.int .i64 0,.bool false,.int .i64 0,.int .i64 0] 109)).drew):=(za.alloc _ _ _).trans (za.drew _ _) iL;have a7:Hid (Cw (k.alloc (.cells #[.string ⟨#[]⟩,.int .i64 0,.bool false,.int .i64 0,.int .i64 0] 109)).drew M bd S T {D with reads:=D.reads+L} C):=(bs.kept0 aE).kept0 R.out;have cA:(k.alloc (.cells #[.string ⟨#[]⟩,.int .i64 0,.bool false,.int .i64 0,.int .i64 0] 109)).heap.size=k.heap.size+1:=by simp
 go_wp2_with fail
 go_region_held3 (λw'=>w'.cell? ⟨o.heap.size,1,none⟩=some (.slice (some ⟨g,aT,none⟩) es.length u)/\w'.cell? ⟨g,aT+c*5+4,none⟩=some (.int .i64 (cg:Int))/\w'.cell? ⟨w.heap.size,0,none⟩=some (.string e.pl.key)/\w'.cell? ⟨w.heap.size,1,none⟩=some (.int .i64 e.pl.num)/\w'.cell? ⟨w.heap.size,2,none⟩=some (.bool e.mark)/\w'.cell? ⟨w.heap.size,3,none⟩=some (.int .i64 (e.size:Int))/\w'.cell? ⟨w.heap.size,4,none⟩=some (.int .i64 (e.at_:Int))) (go_keep) ((go_at_call 137;first
  |(refine(ba _ (by exact bf)).mono ?_;rintro r l ⟨rfl,⟨U,I,cy,co,aN,aK⟩,ad⟩;have aL:Hid _:=aN;have a6:Hid (∀j,I j->T j\/k.drew.heap.size<=j):=aK;have ce:Hid (za (λj=>j=bd\/T j) k.drew l):=ad;have x:Hid (za (λj=>j=bd\/T j) k l):=(av.mono fE).trans ad iL;have aA:Hid (l.heap[o.heap.size]? =_):=(x.block _ (show o.heap.size<k.heap.size by omega) (N _ (by omega))).trans aW.out;have z:Hid (l.heap[w.heap.size]? =_):=(x.block _ (show w.heap.size<k.heap.size by omega) (N _ (by omega))).trans Q.out;have bA:Hid (l.heap[w.heap.size+1]? =_):=(x.block _ (show w.heap.size+1<k.heap.size by omega) (N _ (by omega))).trans bm.out;have bU:l.cell? ⟨o.heap.size,1,none⟩=some (.slice (some ⟨g,aT,none⟩) es.length u):=(cR aA.out rfl);have cd:l.cell? ⟨g,aT+c*5+4,none⟩=some (.int .i64 (cg:Int)):=(x.cell (a:=⟨g,aT+c*5+4,none⟩) (show g<k.heap.size by omega) (N g (by omega))).trans cl;have bS:l.cell? ⟨w.heap.size,0,none⟩=some (.string e.pl.key):=(cR z.out rfl);have bZ:l.cell? ⟨w.heap.size,1,none⟩=some (.int .i64 e.pl.num):=(cR z.out rfl);have bW:l.cell? ⟨w.heap.size,2,none⟩=some (.bool e.mark):=(cR z.out rfl);have bX:l.cell? ⟨w.heap.size,3,none⟩=some (.int .i64 (e.size:Int)):=(cR z.out rfl);have bV:l.cell? ⟨w.heap.size,4,none⟩=some (.int .i64 (e.at_:Int)):=(cR z.out rfl);have bk:k.heap.size<=l.heap.size:=x.size;have et:¬o.heap.size=l.heap.size:=(by omega);have eo:¬g=l.heap.size:=(by omega);have d7:¬w.heap.size=l.heap.size:=(by omega);clear aN aK ad)
  |(refine(ba _ (by exact a7)).mono ?_;rintro r l ⟨rfl,⟨U,I,cy,co,aN,aK⟩,ad⟩;have aL:Hid _:=aN;have a6:Hid (∀j,I j->T j\/(k.alloc (.cells #[.string ⟨#[]⟩,.int .i64 0,.bool false,.int .i64 0,.int .i64 0] 109)).drew.heap.size<=j):=aK;have ce:Hid (za (λj=>j=bd\/T j) (k.alloc (.cells #[.string ⟨#[]⟩,.int .i64 0,.bool false,.int .i64 0,.int .i64 0] 109)).drew l):=ad;have x:Hid (za (λj=>j=bd\/T j) k l):=(R.mono fE).trans ad iL;have aA:Hid (l.heap[o.heap.size]? =_):=(x.block _ (show o.heap.size<k.heap.size by omega) (N _ (by omega))).trans aW.out;have z:Hid (l.heap[w.heap.size]? =_):=(x.block _ (show w.heap.size<k.heap.size by omega) (N _ (by omega))).trans Q.out;have bA:Hid (l.heap[w.heap.size+1]? =_):=(x.block _ (show w.heap.size+1<k.heap.size by omega) (N _ (by omega))).trans bm.out;have bU:l.cell? ⟨o.heap.size,1,none⟩=some (.slice (some ⟨g,aT,none⟩) es.length u):=(cR aA.out rfl);have cd:l.cell? ⟨g,aT+c*5+4,none⟩=some (.int .i64 (cg:Int)):=(x.cell (a:=⟨g,aT+c*5+4,none⟩) (show g<k.heap.size by omega) (N g (by omega))).trans cl;have bS:l.cell? ⟨w.heap.size,0,none⟩=some (.string e.pl.key):=(cR z.out rfl);have bZ:l.cell? ⟨w.heap.size,1,none⟩=some (.int .i64 e.pl.num):=(cR z.out rfl);have bW:l.cell? ⟨w.heap.size,2,none⟩=some (.bool e.mark):=(cR z.out rfl);have bX:l.cell? ⟨w.heap.size,3,none⟩=some (.int .i64 (e.size:Int)):=(cR z.out rfl);have bV:l.cell? ⟨w.heap.size,4,none⟩=some (.int .i64 (e.at_:Int)):=(cR z.out rfl);have bk:k.heap.size<=l.heap.size:=x.size;have K:Hid (l.heap[k.heap.size]? =some (.cells #[.string ⟨#[]⟩,.int .i64 0,.bool false,.int .i64 0,.int .i64 0] 109 (0,0))):=(ad.block k.heap.size (show k.heap.size<(k.alloc (.cells #[.string ⟨#[]⟩,.int .i64 0,.bool false,.int .i64 0,.int .i64 0] 109)).heap.size by rw [cA];omega) (N _ (by omega))).trans (ac k _);have ee:l.cell? ⟨k.heap.size,0,none⟩=some (.string ⟨#[]⟩):=(cR K.out rfl);have eg:=aa l k.heap.size 0 _ _ K.out;have eh:l.cell? ⟨k.heap.size,1,none⟩=some (.int .i64 0):=(cR K.out rfl);have d8:=aa l k.heap.size 1 _ _ K.out;have eb:l.cell? ⟨k.heap.size,2,none⟩=some (.bool false):=(cR K.out rfl);have er:=aa l k.heap.size 2 _ _ K.out;have d9:l.cell? ⟨k.heap.size,3,none⟩=some (.int .i64 0):=(cR K.out rfl);have d5:=aa l k.heap.size 3 _ _ K.out;have d6:l.cell? ⟨k.heap.size,4,none⟩=some (.int .i64 0):=(cR K.out rfl);have eq:=aa l k.heap.size 4 _ _ K.out;clear aN aK ad)))
 have bR:Hid (za (λ_=>False) l (l.alloc (.cells #[.string d.pl.key,.int .i64 d.pl.num,.bool d.mark,.int .i64 (d.size:Int),.int .i64 (d.at_:Int)] 109))):=za.alloc _ _ _;have ao:Hid ((l.alloc (.cells #[.string d.pl.key,.int .i64 d.pl.num,.bool d.mark,.int .i64 (d.size:Int),.int .i64 (d.at_:Int)] 109)).heap[l.heap.size]? =some (.cells #[.string d.pl.key,.int .i64 d.pl.num,.bool d.mark,.int .i64 (d.size:Int),.int .i64 (d.at_:Int)] 109 (0,0))):=ac l _;have bj:Hid (Cw (l.alloc (.cells #[.string d.pl.key,.int .i64 d.pl.num,.bool d.mark,.int .i64 (d.size:Int),.int .i64 (d.at_:Int)] 109)) M bd S I {D with reads:=D.reads+L+U} G):=aL.kept0 (za.alloc _ _ _);have aI:Hid (∀j,j<k.heap.size->(l.alloc (.cells #[.string d.pl.key,.int .i64 d.pl.num,.bool d.mark,.int .i64 (d.size:Int),.int .i64 (d.at_:Int)] 109)).heap[j]? =l.heap[j]?):=λj p=>bR.block j (by omega) id;have bE:Hid (za (λj=>j=bd\/T j) w (l.alloc (.cells #[.string d.pl.key,.int .i64 d.pl.num,.bool d.mark,.int .i64 (d.size:Int),.int .i64 (d.at_:Int)] 109))):=(bq.trans x iL).trans (za.alloc (λ_=>False) _ _) fE;have bw:Hid (za (λj=>j=bd\/T j) k _):=x.trans (za.alloc (λ_=>False) l (.cells #[.string d.pl.key,.int .i64 d.pl.num,.bool d.mark,.int .i64 (d.size:Int),.int .i64 (d.at_:Int)] 109)) fE;have J:Hid (∀j,I j->T j\/k.heap.size<=j):=a6.out;have cq:l.heap.size<=(l.alloc (.cells #[.string d.pl.key,.int .i64 d.pl.num,.bool d.mark,.int .i64 (d.size:Int),.int .i64 (d.at_:Int)] 109)).heap.size:=by simp
 have b0:k.heap.size<=l.heap.size/\l.heap.size<(l.alloc (.cells #[.string d.pl.key,.int .i64 d.pl.num,.bool d.mark,.int .i64 (d.size:Int),.int .i64 (d.at_:Int)] 109)).heap.size:=⟨bk,by simp⟩;have aV:Hid (¬I l.heap.size):=λt=>by have:=aL.chg.lt _ t;omega
 clear bR;generalize (l.alloc (.cells #[.string d.pl.key,.int .i64 d.pl.num,.bool d.mark,.int .i64 (d.size:Int),.int .i64 (d.at_:Int)] 109))=X at*;generalize ct:l.heap.size=bb at*
 rotate_left
 obtain⟨bi,aq⟩:=kF l k.heap.size 109 _ _ _ _ _ (.string d.pl.key) (.int .i64 d.pl.num) (.bool d.mark) (.int .i64 (d.size:Int)) (.int .i64 (d.at_:Int)) K.out;have ao:Hid ((((((l.setCell ⟨k.heap.size,0,none⟩ (.string d.pl.key)).setCell ⟨k.heap.size,1,none⟩ (.int .i64 d.pl.num)).setCell ⟨k.heap.size,2,none⟩ (.bool d.mark)).setCell ⟨k.heap.size,3,none⟩ (.int .i64 (d.size:Int))).setCell ⟨k.heap.size,4,none⟩ (.int .i64 (d.at_:Int))).heap[k.heap.size]? =some (.cells #[.string d.pl.key,.int .i64 d.pl.num,.bool d.mark,.int .i64 (d.size:Int),.int .i64 (d.at_:Int)] 109 (0,0))):=bi;have aI:Hid (∀j,j<k.heap.size->(((((l.setCell ⟨k.heap.size,0,none⟩ (.string d.pl.key)).setCell ⟨k.heap.size,1,none⟩ (.int .i64 d.pl.num)).setCell ⟨k.heap.size,2,none⟩ (.bool d.mark)).setCell ⟨k.heap.size,3,none⟩ (.int .i64 (d.size:Int))).setCell ⟨k.heap.size,4,none⟩ (.int .i64 (d.at_:Int))).heap[j]? =l.heap[j]?):=λj p=>aq.block j (by omega) (by omega);have J:Hid (∀j,I j->T j\/k.heap.size<=j):=λj p=>(a6 j p).imp id (λh=>by have h':(k.alloc (.cells #[.string ⟨#[]⟩,.int .i64 0,.bool false,.int .i64 0,.int .i64 0] 109)).heap.size<=j:=h;omega)
 have aV:Hid (¬I k.heap.size):=λt=>by
  rcases a6 _ t with H|H;.have:=W.out _ H;omega
  .have h':(k.alloc (.cells #[.string ⟨#[]⟩,.int .i64 0,.bool false,.int .i64 0,.int .i64 0] 109)).heap.size<=k.heap.size:=H;omega
 have bj:Hid (Cw (((((l.setCell ⟨k.heap.size,0,none⟩ (.string d.pl.key)).setCell ⟨k.heap.size,1,none⟩ (.int .i64 d.pl.num)).setCell ⟨k.heap.size,2,none⟩ (.bool d.mark)).setCell ⟨k.heap.size,3,none⟩ (.int .i64 (d.size:Int))).setCell ⟨k.heap.size,4,none⟩ (.int .i64 (d.at_:Int))) M bd S I {D with reads:=D.reads+L+U} G):=aL.kept aq (λj p an=>by have:=aR.out j p;omega) (λj p an=>aV (by rw [<-an];exact p));have bE:Hid (za (λj=>j=bd\/T j) w (((((l.setCell ⟨k.heap.size,0,none⟩ (.string d.pl.key)).setCell ⟨k.heap.size,1,none⟩ (.int .i64 d.pl.num)).setCell ⟨k.heap.size,2,none⟩ (.bool d.mark)).setCell ⟨k.heap.size,3,none⟩ (.int .i64 (d.size:Int))).setCell ⟨k.heap.size,4,none⟩ (.int .i64 (d.at_:Int)))):=(bq.trans x iL).trans aq (λj p=>.inr (by omega));have bw:Hid (za (λj=>j=bd\/T j) k _):=x.trans aq (λj p=>.inr (by omega));have cq:l.heap.size<=(((((l.setCell ⟨k.heap.size,0,none⟩ (.string d.pl.key)).setCell ⟨k.heap.size,1,none⟩ (.int .i64 d.pl.num)).setCell ⟨k.heap.size,2,none⟩ (.bool d.mark)).setCell ⟨k.heap.size,3,none⟩ (.int .i64 (d.size:Int))).setCell ⟨k.heap.size,4,none⟩ (.int .i64 (d.at_:Int))).heap.size:=aq.size;have b0:k.heap.size<=k.heap.size/\k.heap.size<(((((l.setCell ⟨k.heap.size,0,none⟩ (.string d.pl.key)).setCell ⟨k.heap.size,1,none⟩ (.int .i64 d.pl.num)).setCell ⟨k.heap.size,2,none⟩ (.bool d.mark)).setCell ⟨k.heap.size,3,none⟩ (.int .i64 (d.size:Int))).setCell ⟨k.heap.size,4,none⟩ (.int .i64 (d.at_:Int))).heap.size:=⟨aF _,(lT bi)⟩;clear bi aq K;generalize (((((l.setCell ⟨k.heap.size,0,none⟩ (.string d.pl.key)).setCell ⟨k.heap.size,1,none⟩ (.int .i64 d.pl.num)).setCell ⟨k.heap.size,2,none⟩ (.bool d.mark)).setCell ⟨k.heap.size,3,none⟩ (.int .i64 (d.size:Int))).setCell ⟨k.heap.size,4,none⟩ (.int .i64 (d.at_:Int)))=X at*;generalize ct:k.heap.size=bb at ao b0 aV ⊢
 rotate_left
 all_goals
  have cx:Hid (X.heap[o.heap.size]? =_):=(aI _ (by omega)).trans aA.out;have E:Hid (X.heap[w.heap.size]? =_):=(aI _ (by omega)).trans z.out;have cf:Hid (X.heap[w.heap.size+1]? =_):=(aI _ (by omega)).trans bA.out;have cW:Hid (X.ownsRow 0 109 5 (.slice (some ⟨g,aT,none⟩) es.length u) es.length (zj es)):=bw.owns cD (λj p=>N j (by have:=O.out j p;omega));have da:Hid (∀j,I j->j<X.heap.size):=bj.chg.lt;clear bU cd bS bZ bW bX bV bL bM bF bJ bH bI cl aI x ce aL bf a7 av R ba;have u0:X.cell? ⟨bb,0,none⟩=some (.string d.pl.key):=cR ao.out rfl;have dr:X.cell? ⟨w.heap.size,0,none⟩=some (.string e.pl.key):=cR E.out rfl;have de:=aa X w.heap.size 0 _ _ E.out;have u1:X.cell? ⟨bb,1,none⟩=some (.int .i64 d.pl.num):=cR ao.out rfl;have dv:X.cell? ⟨w.heap.size,1,none⟩=some (.int .i64 e.pl.num):=cR E.out rfl;have dc:=aa X w.heap.size 1 _ _ E.out;have u2:X.cell? ⟨bb,2,none⟩=some (.bool d.mark):=cR ao.out rfl;have ds:X.cell? ⟨w.heap.size,2,none⟩=some (.bool e.mark):=cR E.out rfl;have cU:=aa X w.heap.size 2 _ _ E.out;have u3:X.cell? ⟨bb,3,none⟩=some (.int .i64 (d.size:Int)):=cR ao.out rfl;have d0:X.cell? ⟨w.heap.size,3,none⟩=some (.int .i64 (e.size:Int)):=cR E.out rfl;have dd:=aa X w.heap.size 3 _ _ E.out;have u4:X.cell? ⟨bb,4,none⟩=some (.int .i64 (d.at_:Int)):=cR ao.out rfl;have d4:X.cell? ⟨w.heap.size,4,none⟩=some (.int .i64 (e.at_:Int)):=cR E.out rfl;have cX:=aa X w.heap.size 4 _ _ E.out;go_wp2
  go_region
  obtain⟨bO,b9⟩:=kF X w.heap.size 109 _ _ _ _ _ (.string d.pl.key) (.int .i64 d.pl.num) (.bool d.mark) (.int .i64 (d.size:Int)) (.int .i64 (d.at_:Int)) E.out;have al:Hid ((((((X.setCell ⟨w.heap.size,0,none⟩ (.string d.pl.key)).setCell ⟨w.heap.size,1,none⟩ (.int .i64 d.pl.num)).setCell ⟨w.heap.size,2,none⟩ (.bool d.mark)).setCell ⟨w.heap.size,3,none⟩ (.int .i64 (d.size:Int))).setCell ⟨w.heap.size,4,none⟩ (.int .i64 (d.at_:Int))).drew.heap[w.heap.size]? =_):=bO;have Y:Hid (za (λj=>j=w.heap.size) X (((((X.setCell ⟨w.heap.size,0,none⟩ (.string d.pl.key)).setCell ⟨w.heap.size,1,none⟩ (.int .i64 d.pl.num)).setCell ⟨w.heap.size,2,none⟩ (.bool d.mark)).setCell ⟨w.heap.size,3,none⟩ (.int .i64 (d.size:Int))).setCell ⟨w.heap.size,4,none⟩ (.int .i64 (d.at_:Int))).drew):=b9.trans (za.drew (λ_=>False) _) fE;clear bO b9;generalize (((((X.setCell ⟨w.heap.size,0,none⟩ (.string d.pl.key)).setCell ⟨w.heap.size,1,none⟩ (.int .i64 d.pl.num)).setCell ⟨w.heap.size,2,none⟩ (.bool d.mark)).setCell ⟨w.heap.size,3,none⟩ (.int .i64 (d.size:Int))).setCell ⟨w.heap.size,4,none⟩ (.int .i64 (d.at_:Int))).drew=F at*;have dY:=Y.size;have bt:Hid (F.heap[o.heap.size]? =_):=(Y.block _ (by omega) (by omega)).trans cx.out;have cv:Hid (F.heap[w.heap.size+1]? =_):=(Y.block _ (by omega) (by omega)).trans cf.out;have c5:Hid (F.ownsRow 0 109 5 (.slice (some ⟨g,aT,none⟩) es.length u) es.length (zj es)):=Y.owns cW (λj p an=>by have:=O.out j p;omega)
  have db:Hid (Cw F M bd S I {D with reads:=D.reads+L+U} G):=bj.kept Y (λj p an=>by have:=aR.out j p;omega) (λj p an=>by
   rcases J j p with H|H;.have:=W.out j H;omega
   .omega)
  have cH:Hid (za (λj=>j=bd\/T j) w F):=bE.trans Y (λj p=>.inr (by omega));clear u0 u1 u2 u3 u4 dr dv ds d0 d4 de dc cU dd cX;have bL:F.cell? ⟨w.heap.size,0,none⟩=some (.string d.pl.key):=cR al.out rfl;have bM:F.cell? ⟨w.heap.size,1,none⟩=some (.int .i64 d.pl.num):=cR al.out rfl;have bF:F.cell? ⟨w.heap.size,2,none⟩=some (.bool d.mark):=cR al.out rfl;have bJ:F.cell? ⟨w.heap.size,3,none⟩=some (.int .i64 (d.size:Int)):=cR al.out rfl;have bH:F.cell? ⟨w.heap.size,4,none⟩=some (.int .i64 (d.at_:Int)):=cR al.out rfl;have bI:F.cell? ⟨o.heap.size,1,none⟩=some (.slice (some ⟨g,aT,none⟩) es.length u):=cR bt.out rfl;go_wp2_with fail;rw [show ((c:Nat):Int)+1=((c+1:Nat):Int) from by omega];have a3:Hid (za (λ_=>False) F (F.alloc (.cells #[.string d.pl.key,.int .i64 d.pl.num,.bool d.mark,.int .i64 (d.size:Int),.int .i64 (d.at_:Int)] 109))):=za.alloc _ _ _;have cZ:Hid ((F.alloc (.cells #[.string d.pl.key,.int .i64 d.pl.num,.bool d.mark,.int .i64 (d.size:Int),.int .i64 (d.at_:Int)] 109)).heap[F.heap.size]? =some (.cells (qr d).toArray 109 (0,0))):=ac F _;have ej:(F.alloc (.cells #[.string d.pl.key,.int .i64 d.pl.num,.bool d.mark,.int .i64 (d.size:Int),.int .i64 (d.at_:Int)] 109)).heap.size=F.heap.size+1:=by simp
  generalize (F.alloc (.cells #[.string d.pl.key,.int .i64 d.pl.num,.bool d.mark,.int .i64 (d.size:Int),.int .i64 (d.at_:Int)] 109))=dQ at*;refine(uN dQ (some ⟨g,aT,none⟩) es.length u (c+1) es rfl (a3.owns c5 nF) F.heap.size (λt=>by have:=(O _ t).2;omega) d cZ (by omega) (by omega)).mono ?_;rintro r V ⟨A,af,rfl,ab⟩;rw [c3.out] at ab;have dF:=ab.kept.size;have bo:∀j,o.heap.size<=j\/j<b1.heap.size->¬(Value.slice (some ⟨g,aT,none⟩) es.length u).ownBlock=some j:=λj p t=>by have:=O.out j t;omega
  have ax:Hid (V.heap[o.heap.size]? =_):=(ab.kept.block _ (by omega) (bo _ (.inl (aF _)))).trans ((a3.block _ (by omega) id).trans bt);have ch:Hid (V.heap[w.heap.size+1]? =_):=(ab.kept.block _ (by omega) (bo _ (.inr (by omega)))).trans ((a3.block _ (by omega) id).trans cv)
  have c1:b1.heap.size<=A/\A≠o.heap.size/\¬I A:=by
   rcases ab.at_ with H|H;.have:=O.out A H;exact⟨by omega,by omega,λt=>(J A t).elim (λh=>by have:=W.out A h;omega) (λh=>by omega)⟩
   .exact⟨by omega,by omega,λt=>by have:=da.out A t;omega⟩
  have cL:Hid (za (λj=>(Value.slice (some ⟨g,aT,none⟩) es.length u).ownBlock=some j) F V):=(a3.mono fE).trans ab.kept iL;have dP:V.cell? ⟨o.heap.size,0,none⟩=some (.int .u8 4):=cR ax.out rfl;have dS:V.cell? ⟨o.heap.size,1,none⟩=some (.slice (some ⟨g,aT,none⟩) es.length u):=cR ax.out rfl;have cY:=aa V o.heap.size 1 _ _ ax.out;change Hid _ at ab;clear bo;go_wp2_with fail;have bc:Hid ((V.setCell ⟨o.heap.size,1,none⟩ (.slice (some ⟨A,0,none⟩) (es.length+1) af)).heap[o.heap.size]? =some (.cells #[.int .u8 4,.slice (some ⟨A,0,none⟩) (es.length+1) af] 209 (0,0))):=heap_setCell_same V o.heap.size 1 _ _ _ ax.out;have bv:Hid (za (λj=>j=o.heap.size) V (V.setCell ⟨o.heap.size,1,none⟩ (.slice (some ⟨A,0,none⟩) (es.length+1) af))):=za.setCell (S:=λj=>j=o.heap.size) V ⟨o.heap.size,1,none⟩ _ rfl;have ei:(V.setCell ⟨o.heap.size,1,none⟩ (.slice (some ⟨A,0,none⟩) (es.length+1) af)).heap.size=V.heap.size:=by simp
  generalize (V.setCell ⟨o.heap.size,1,none⟩ (.slice (some ⟨A,0,none⟩) (es.length+1) af))=P at*;have b8:Hid (P.ownsRow 0 109 5 (.slice (some ⟨A,0,none⟩) s.length af) s.length (zj s)):=bv.owns ab.own (λj p an=>by simp [Value.ownBlock] at p;omega);have cG:Hid (qe P (λj=>j=A) (some ⟨A,0,none⟩) s):=qe.of_own b8 (λj p=>by simp [Value.ownBlock] at p;exact p.symm) (by omega)
  have ca:es.length+1<=af/\af<=9223372036854775807:=by
   rcases b8.2 with⟨H,h2⟩|⟨ew,dN,eu,dZ,_,ex,H,h2,_⟩;.cases H
   .cases dZ;unfold maxLen at h2;omega
  have b4:Hid (za (λj=>(Value.slice (some ⟨g,aT,none⟩) es.length u).ownBlock=some j\/j=o.heap.size) F P):=(cL.mono iL).trans bv (λ_ h=>.inl (.inr h))
  have cn:Hid (Cw P M bd S I {D with reads:=D.reads+L+U} G):=db.kept b4 (λj p t=>by
   have:=aR.out j p;rcases t with t|t;.have:=O.out j t;omega
   .omega) (λj p t=>by
   rcases J j p with H|H
   .have:=W.out j H;rcases t with t|t;.have:=O.out j t;omega
    .omega
   .rcases t with t|t;.have:=O.out j t;omega
    .omega)
  have ck:Hid (P.heap[w.heap.size+1]? =_):=(bv.block _ (by omega) (by omega)).trans ch.out
  have cu:Hid (za (λj=>j=bd\/T j) w P):=cH.trans b4 (λj p=>by
   rcases p with t|t;.have:=O.out j t;exact .inr (by omega)
   .exact .inr (by omega))
  have cN:P.cell? ⟨o.heap.size,0,none⟩=some (.int .u8 4):=cR bc.out rfl;have c0:P.cell? ⟨o.heap.size,1,none⟩=some (.slice (some ⟨A,0,none⟩) (es.length+1) af):=cR bc.out rfl;have d3:o.heap.size<P.heap.size:=by omega
  clear dP dS cY;go_region_held3 (λw'=>w'.cell? ⟨o.heap.size,0,none⟩=some (.int .u8 4)/\w'.cell? ⟨o.heap.size,1,none⟩=some (.slice (some ⟨A,0,none⟩) (es.length+1) af)) (go_keep) ((go_at_call 129;refine(jZ _ 4 (by decide)).mono ?_;rintro r d1 ⟨rfl,bP⟩;rw [bP];clear bP d1));have cM:room 4=6:=rfl;have aQ:Hid (za (λ_=>False) P P.drew):=za.drew _ P;have em:P.drew.heap.size=P.heap.size:=rfl;generalize P.drew=aD at*;have bT:Hid (qe aD (λj=>j=A) (some ⟨A,0,none⟩) s):=cG.kept aQ nF;have br:Hid (Cw aD M bd S I {D with reads:=D.reads+L+U} G):=cn.kept0 aQ.out;have bB:Hid (aD.heap[w.heap.size+1]? =_):=(aQ.block _ (by omega) id).trans ck.out;have ep:Hid (aD.heap[o.heap.size]? =_):=(aQ.block _ (by omega) id).trans bc.out;have az:Hid (za (λj=>j=bd\/T j) w aD):=cu.trans aQ fE;have cI:Hid (∀j,j=A->¬I j):=λj p dH=>c1.2.2 (by rw [<-p];exact dH);have cE:Hid (∀j,j=A->j≠bd):=λj p an=>by omega
  clear cN c0;by_cases el:es.length+1<=6
  .have ap:(false,qx,G.put B (zl (zc 4 s)),aj)=(f,v,bp,bN):=by
    have:=aZ.out;unfold Ck.more at this;rw [aB (by omega)] at this;exact this
   clear aZ;cases ap;have dp:(es.length:Int)+1<=((room 4:Nat):Int):=by rw [cM];omega
   go_wp2_with fail;refine(vf aD M bd S I _ G br (λj=>j=A) (some ⟨A,0,none⟩) af 4 (.inl rfl) s bT be (by omega) B (by omega) (es.length+1) a5).mono ?_;rintro r y ⟨rfl,⟨bG,aM,aU⟩,am⟩;have a8:Hid _:=aM;have aJ:Hid _:=aU;have bl:Hid (za I aD y):=am;have q:Hid (y.heap[w.heap.size+1]? =_):=(am.block _ (by omega) (λt=>(J _ t).elim (λh=>by have:=W.out _ h;omega) (λh=>by omega))).trans bB.out;have q0:y.cell? ⟨w.heap.size+1,0,none⟩=some (.string ⟨#[]⟩):=cR q.out rfl;have dt:y.cell? ⟨w.heap.size+1,1,none⟩=some (.int .i64 0):=cR q.out rfl;have dA:y.cell? ⟨w.heap.size+1,2,none⟩=some (.bool false):=cR q.out rfl;have dn:y.cell? ⟨w.heap.size+1,3,none⟩=some (.int .i64 0):=cR q.out rfl;have dJ:y.cell? ⟨w.heap.size+1,4,none⟩=some (.int .i64 0):=cR q.out rfl;have dV:=aa y (w.heap.size+1) 0 _ _ q.out;have dj:=aa y (w.heap.size+1) 1 _ _ q.out;have dT:=aa y (w.heap.size+1) 2 _ _ q.out;have dO:=aa y (w.heap.size+1) 3 _ _ q.out;have dD:=aa y (w.heap.size+1) 4 _ _ q.out;clear aM aU am;go_wp2;have cF:Hid (Cw y M bd S bG {D with reads:=D.reads+(L+U)} (G.put B (zl (zc 4 s)))):=by have:=a8.out;rw [a9] at this;exact this
   obtain⟨cs,bu⟩:=kF y (w.heap.size+1) 109 _ _ _ _ _ (.string ⟨#[]⟩) (.int .i64 0) (.bool false) (.int .i64 0) (.int .i64 0) q.out;refine bodyPost_ret (v:=.tuple #[.agg qx.toArray,.bool false]) (qJ Tryz.results137 _ _ (w.heap.size+1) 109 _ (0,0) _ rfl cs Tryz.underlying109 rfl (by kernel_rfl)) rfl ⟨rfl,⟨L+U,bG,by omega,by omega,cF.kept bu (λj p an=>by have:=aR.out j p;omega) (λj p an=>?_),λj p=>(aJ j p).elim (λh=>(J j h).imp id (λh=>by omega)) (λh=>.inr (by have:=az.size;omega))⟩,?_⟩
   .rcases aJ j p with H|H
    .rcases J j H with h2|h2;.have:=W.out j h2;omega
     .omega
    .omega
   .exact(az.trans bl (λj p=>(J j p).elim (λh=>.inl (.inr h)) (λh=>.inr (by omega)))).trans bu (λj p=>.inr (by omega))
  .have ap:(true,qr ⟨(s.getD (s.length/2) gR).pl,false,0,(G.split D.bs.length aj B 4 s).1⟩,(G.split D.bs.length aj B 4 s).2.1,(G.split D.bs.length aj B 4 s).2.2)=(f,v,bp,bN):=by
    have:=aZ.out;unfold Ck.more at this;rw [aw (by omega)] at this;exact this
   clear aZ;cases ap;have cC:Hid (qF (G.look {D with reads:=D.reads+L+U} 2) aj):=by show qF _ _;rw [zF];exact df.out
   go_wp2_with fail;refine(Jo aD M bd S I _ G br aj cC (by show 0<=D.reads+L+U;omega) (by show D.reads+L+U<=_;omega) (λj=>j=A) cI cE (some ⟨A,0,none⟩) af 4 (.inl rfl) s bT be (es.length+1) a5 (by omega) (by omega) ca.1 ca.2 B (by omega)).mono ?_;rintro r y ⟨rfl,⟨cr,bG,dC,dy,aM,aU⟩,am⟩;have a8:Hid _:=aM;have aJ:Hid _:=aU;have bl:Hid (za (λj=>j=bd\/I j) aD y):=am;have q:Hid (y.heap[w.heap.size+1]? =_):=(am.block _ (by omega) (λt=>t.elim (λh=>by omega) (λt=>(J _ t).elim (λh=>by have:=W.out _ h;omega) (λh=>by omega)))).trans bB.out;have q0:y.cell? ⟨w.heap.size+1,0,none⟩=some (.string ⟨#[]⟩):=cR q.out rfl;have dt:y.cell? ⟨w.heap.size+1,1,none⟩=some (.int .i64 0):=cR q.out rfl;have dA:y.cell? ⟨w.heap.size+1,2,none⟩=some (.bool false):=cR q.out rfl;have dn:y.cell? ⟨w.heap.size+1,3,none⟩=some (.int .i64 0):=cR q.out rfl;have dJ:y.cell? ⟨w.heap.size+1,4,none⟩=some (.int .i64 0):=cR q.out rfl;have dV:=aa y (w.heap.size+1) 0 _ _ q.out;have dj:=aa y (w.heap.size+1) 1 _ _ q.out;have dT:=aa y (w.heap.size+1) 2 _ _ q.out;have dO:=aa y (w.heap.size+1) 3 _ _ q.out;have dD:=aa y (w.heap.size+1) 4 _ _ q.out;clear aM aU am;generalize bQ:(s.getD (s.length/2) gR).pl=bK at*;generalize b5:G.split D.bs.length aj B 4 s=dX at*;obtain⟨cj,dk,dx⟩:=dX;dsimp only at a8 ⊢;have c2:Hid ((s.getD (s.length/2) gR).pl=bK):=bQ;have b7:Hid (G.split D.bs.length aj B 4 s=(cj,dk,dx)):=b5;clear bQ b5;unfold qr;go_wp2;obtain⟨cs,bu⟩:=kF y (w.heap.size+1) 109 _ _ _ _ _ (.string bK.key) (.int .i64 bK.num) (.bool false) (.int .i64 0) (.int .i64 (cj:Int)) q.out;refine bodyPost_ret (v:=.tuple #[.agg (qr ⟨bK,false,0,cj⟩).toArray,.bool true]) (qJ Tryz.results137 _ _ (w.heap.size+1) 109 _ (0,0) _ rfl cs Tryz.underlying109 rfl (by kernel_rfl)) rfl ⟨by rw [c2.out,b7.out],⟨L+U+cr,bG,by omega,by omega,?_,λj p=>(aJ j p).elim (λh=>(J j h).imp id (λh=>by omega)) (λh=>.inr (by have:=az.size;omega))⟩,?_⟩
   .have:=a8.kept bu (λj p an=>by have:=aR.out j p;omega) (λj p an=>by
     rcases aJ j p with H|H
     .rcases J j H with h2|h2;.have:=W.out j h2;omega
      .omega
     .omega)
    have cO:D.reads+L+U+cr=D.reads+(L+U+cr):=by omega
    rw [cO] at this;rw [b7.out];exact this
   .exact(az.trans bl (λj p=>p.elim (λh=>.inl (.inl h)) (λh=>(J j h).elim (λh=>.inl (.inr h)) (λh=>.inr (by omega))))).trans bu (λj p=>.inr (by omega))
end prog
namespace prog
open ref
variable {h b ta:Nat}{es:List En}{e:En}{q0 q:Pl}{nb:List Nat}
structure dY {h:Nat} (t:Tr h) (e:En) (t':Tr h):Prop where
 blk:t'.blk=t.blk
 good:t'.Good
 lo:t.items.length<=t'.items.length
 hi:t'.items.length<=6
 ents:t'.ents=yu e t.ents
 first:∀p,t.First p->t'.First p
structure fJ {h:Nat} (t:Tr h) (e:En) (t' u:Tr h) (q:Pl):Prop where
 blk:t'.blk=t.blk
 good:t'.Good
 goodu:u.Good
 lo:3<=t'.items.length
 hi:t'.items.length<=6
 lou:3<=u.items.length
 hiu:u.items.length<=6
 ents:t'.ents++u.ents=yu e t.ents
 first:∀p,t.First p->t'.First p
 firstu:u.First q
 qok:q.Ok
 left:∀x∈t'.ents,x.pl.lt q=true
 right:∀x∈u.ents,¬x.pl.lt q=true
theorem zy(b:Nat)(a:List (Pl×Tr h)):(Tr.items (h:=h+1) (b,a)).length=a.length:=yI (h:=h) (b,a)
theorem VV(g:Tr.Good (h:=0) (b,es))(c:e.Ok)(d:(yu e es).length<=6):dY (h:=0) (b,es) e (b,yu e es) where
 blk:=rfl
 good:=⟨g.1,λf a=>by
  rcases j6.1 a with rfl|a;.exact c
  .exact g.2 f a⟩
 lo:=by show es.length<=(yu e es).length;rw [(j7 e es).length_eq];simp
 hi:=d
 ents:=rfl
 first:=λ_ h=>h
theorem Jp(g:∀b∈es,b.Ok)(c:e.Ok):∀b∈yu e es,b.Ok:=λb a=>by
 rcases j6.1 a with rfl|a;.exact c
 .exact g b a
theorem Q5(e:En)(es:List En):(yu e es).length=es.length+1:=by rw [(j7 e es).length_eq];simp
theorem VW{l:List En}(g:Tr.Good (h:=0) (b,es))(r:e.Ok)(n:ta<65536)(q:yL es)(s:∀f∈es,f.pl≠e.pl)(k:yu e es=l)(u:es.length=6)(d:En):
 fJ (h:=0) (b,es) e (b,l.take (l.length/2)) (ta,l.drop (l.length/2)) (l.getD (l.length/2) d).pl:=by
 have c:=Jp g.2 r;have i:=q.ins s;have j:l.length=7:=by rw [<-k,Q5,u]
 rw [k] at c i;rw [j];have v:l=l.take 3++l[3]::l.drop 4:=by rw [<-aI,aE]
 have p:l.getD (7/2) d=l[3]:=by rw [aA,aH (by omega)];rfl
 have m:yL (l.take 3++l[3]::l.drop 4):=by rw [<-v];exact i
 have o:=aX.1 m;have t:l.drop (7/2)=l[3]::l.drop 4:=aI (by omega);rw [p];refine⟨rfl,⟨g.1,λf a=>c f (aP a)⟩,⟨n,λf a=>c f (eK a)⟩,?_,?_,?_,?_,?_,λ_ h=>h,True.intro,(c _ (ai (by omega))).pl,?_,?_⟩;.show 3<=(l.take (7/2)).length;simp;omega
 .show (l.take (7/2)).length<=6;simp;omega
 .show 3<=(l.drop (7/2)).length;simp;omega
 .show (l.drop (7/2)).length<=6;simp;omega
 .show l.take (7/2)++l.drop (7/2)=yu e es;rw [aE,k]
 .intro f a;exact o.2.2 f a _ (al ..)
 .intro f a;have a:=a;rw [t] at a;rcases ar.1 a with rfl|a;.exact Pl.irrefl _
  .exact Pl.asymm ((aL.1 o.2.1).1 f a)
theorem Kids.route{A B:List (Pl×Tr h)}{tc:Tr h}(k:Kids (A++(q0,tc)::B))(j:¬e.pl.lt q0=true)(n:∀b∈B,e.pl.lt b.1=true):
 yu e (zI (A++(q0,tc)::B))=zI A++(yu e tc.ents++zI B):=by
 obtain⟨r,u,q,t,v,s,o⟩:=k.mid;rw [zA,zr];refine VD (λg a=>Pl.lt_of_lt_not (q g a) j) (λg a=>?_);obtain⟨l,m,d⟩:=eW.1 a;obtain⟨c,f,rfl⟩:=au.1 m;have i:=o c f g d;have h2:=n c f
 cases p:g.pl.lt e.pl with
 |false=>rfl
 |true=>exact absurd (Pl.trans p h2) i
theorem jg{b':Nat}{A B B':List (Pl×Tr h)}{p:Pl}{tc tc':Tr h}(d:Tr.First (h:=h+1) (b,A++(q0,tc)::B) p):Tr.First (h:=h+1) (b',A++(q0,tc')::B') p:=by
 obtain⟨u,r,c⟩:=d;simp only at c
 cases A with
 |nil=>
  simp only [aK,eH,eS] at c;exact⟨tc',B',by simp [c.1.1]⟩
 |cons a A=>
  simp only [aT,eH] at c;exact⟨u,A++(q0,tc')::B',by simp [c.1]⟩
theorem Xz{A B:List (Pl×Tr h)}{tc tc':Tr h}(g:Tr.Good (h:=h+1) (b,A++(q0,tc)::B))(s:(A++(q0,tc)::B).length<=6)(m:¬e.pl.lt q0=true)(n:∀b∈B,e.pl.lt b.1=true)(k:dY tc e tc'):
 dY (h:=h+1) (b,A++(q0,tc)::B) e (b,A++(q0,tc')::B):=by
 have l:=g.kids;obtain⟨v,x,y,t,u,r,w⟩:=l.mid;have f:=g.full;simp only at f;have o:∀i∈tc'.ents,i=e\/i∈tc.ents:=λi a=>by rw [k.ents] at a;exact j6.1 a
 refine⟨rfl,?_,?_,?_,?_,λp q=>jg q⟩
 .refine Kids.node (l.swap k.good k.hi (k.first _ u) (λi a=>?_) (λb' j i a=>?_)) (λc d=>?_) g.1
  .rcases o i a with rfl|a;.exact m
   .exact t i (by rw [zr];exact af _ a)
  .rcases o i a with rfl|a;.exact n b' j
   .exact r b' j i (av _ a)
  .rcases ah.1 d with d|d;.exact f c (af _ d)
   .rcases ar.1 d with rfl|d;.exact aD (f (q0,tc) (by simp)) k.lo
    .exact f c (by simp [d])
 .refine aD (eE (zy _ _)) (aD ?_ (eE (zy _ _).symm));simp
 .exact aD (eE (zy _ _)) (by simpa using s)
 .show zI (A++(q0,tc')::B)=yu e (zI (A++(q0,tc)::B));rw [l.route m n,zA,zr,k.ents]
theorem Q6{A B:List (Pl×Tr h)}{tc tc' uc:Tr h}(g:Tr.Good (h:=h+1) (b,A++(q0,tc)::B))(r:¬e.pl.lt q0=true)(s:∀b∈B,e.pl.lt b.1=true)(k:fJ tc e tc' uc q):
 Kids (A++(q0,tc')::(q,uc)::B)/\(∀c∈A++(q0,tc')::(q,uc)::B,3<=c.2.items.length)/\zI (A++(q0,tc')::(q,uc)::B)=yu e (zI (A++(q0,tc)::B)):=by
 have n:=g.kids;obtain⟨y,D,E,v,w,u,C⟩:=n.mid;have j:=g.full;simp only at j
 have t:∀d,d∈tc'.ents\/d∈uc.ents->d=e\/d∈tc.ents:=λd a=>by refine j6.1 (k.ents▸ ?_);exact ah.2 a
 have l:∀d,d∈tc'.ents\/d∈uc.ents->¬d.pl.lt q0=true:=λd a=>by
  rcases t d a with rfl|a;.exact r
  .exact v d (by rw [zr];exact af _ a)
 have m:∀b∈B,∀d,d∈tc'.ents\/d∈uc.ents->d.pl.lt b.1=true:=λb' f d a=>by
  rcases t d a with rfl|a;.exact s b' f
  .exact u b' f d (av _ a)
 obtain⟨d,a⟩:=k.good.some_ent (by have:=k.lo;omega);obtain⟨x,p⟩:=k.goodu.some_ent (by have:=k.lou;omega);refine⟨n.parted k.good k.goodu k.hi k.hiu k.qok (k.first _ w) k.firstu (Pl.lt_of_not (l d (.inl a)) (k.left d a)) k.left k.right (λz o=>l z (.inl o)) (λb' f z o=>m b' f z (.inr o)) (λb' f=>Pl.lt_of_not (k.right x p) (m b' f x (.inr p))),λc i=>?_,?_⟩
 .rcases ah.1 i with i|i;.exact j c (af _ i)
  .rcases ar.1 i with rfl|i;.exact k.lo
   .rcases ar.1 i with rfl|i;.exact k.lou
    .exact j c (by simp [i])
 .rw [n.route r s,zA,zr,zr,<-k.ents];simp
theorem XA{A B:List (Pl×Tr h)}{tc tc' uc:Tr h}(g:Tr.Good (h:=h+1) (b,A++(q0,tc)::B))(i:(A++(q0,tc)::B).length+1<=6)(f:¬e.pl.lt q0=true)(c:∀b∈B,e.pl.lt b.1=true)(k:fJ tc e tc' uc q):
 dY (h:=h+1) (b,A++(q0,tc)::B) e (b,A++(q0,tc')::(q,uc)::B):=by
 obtain⟨d,h2,j⟩:=Q6 g f c k;refine⟨rfl,d.node h2 g.1,?_,?_,j,λp a=>jg a⟩;.refine aD (eE (zy _ _)) (aD ?_ (eE (zy _ _).symm));simp
 .exact aD (eE (zy _ _)) (by simp at i ⊢;omega)
theorem XB{A B:List (Pl×Tr h)}{tc tc' uc:Tr h}(g:Tr.Good (h:=h+1) (b,A++(q0,tc)::B))(I:(A++(q0,tc)::B).length=6)(v:ta<65536)(H:¬e.pl.lt q0=true)(D:∀b∈B,e.pl.lt b.1=true)(k:fJ tc e tc' uc q)
 (a:List (Pl×Tr h)) (j:A++(q0,tc')::(q,uc)::B=a) (f:Pl) (n:(a.map Prod.fst)[3]? =some f):
 fJ (h:=h+1) (b,A++(q0,tc)::B) e (b,a.take 3) (ta,a.drop 3) f:=by
 obtain⟨w,h2,x⟩:=Q6 g H D k;have y:a.length=7:=by rw [<-j];simp at I ⊢;omega
 have i:∀p,Tr.First (h:=h+1) (b,A++(q0,tc)::B) p->Tr.First (h:=h+1) (b,a.take 3) p:=λp F=>by obtain⟨u,r,t⟩:=jg (b':=b) (B':=(q,uc)::B) (tc':=tc') F;simp only at t;rw [j] at t;exact⟨u,r.take 2,by simp only;rw [t,iz]⟩
 rw [j] at w h2 x;have l:a.drop 3=a[3]::a.drop 4:=aI (by omega);have z:a=a.take 3++a[3]::a.drop 4:=by rw [<-l,aE]
 have d:a[3]=(f,a[3].2):=by
  have:a[3].1=f:=by rw [l0,aH (by omega)] at n;simpa using n
  rw [<-this]
 have m:Kids (a.take 3++(f,a[3].2)::a.drop 4):=by rw [<-d,<-z];exact w
 obtain⟨L,P,K,J,N,M,O⟩:=m.mid;have G:=m.left;have E:Kids (a.drop 3):=by rw [l,d];exact m.right
 refine⟨rfl,G.node (λc s=>h2 c (aP s)) g.1,E.node (λc s=>h2 c (eK s)) v,?_,?_,?_,?_,?_,i,?_,?_,?_,?_⟩;.refine aD ?_ (eE (zy _ _).symm);simp;omega
 .refine aD (eE (zy _ _)) ?_;simp;omega
 .refine aD ?_ (eE (zy _ _).symm);simp;omega
 .refine aD (eE (zy _ _)) ?_;simp;omega
 .show zI (a.take 3)++zI (a.drop 3)=yu e (zI (A++(q0,tc)::B));rw [<-zA,aE,x]
 .exact⟨a[3].2,a.drop 4,by simp only;rw [l];exact congrArg (· ::a.drop 4) d⟩
 .exact(m.right.good (f,a[3].2) (al ..)).2.2
 .intro C o;exact K C o
 .intro C o;refine J C ?_;rw [<-d,<-l];exact o
def Tr.LayV{β:Type}(pg:Pg->β)(rd:Nat->β):{h:Nat}->Tr h->Prop
 |0,t=>rd t.1=pg (zc 5 t.2)
 |h+1,t=>rd t.1=pg (zc 4 (Tr.items (h:=h+1) t))/\∀c∈t.2,Tr.LayV pg rd (h:=h) c.2
theorem Tr.LayV.node{β:Type}{pg:Pg->β}{rd:Nat->β}:{h:Nat}->{t:Tr h}->t.LayV pg rd->rd t.blk=pg (zc (zN h) t.items)
 |0,_,l=>l
 |_+1,_,l=>l.1
theorem zU{a:List (Pl×Tr h)}{c:Pl×Tr h}{j:Nat}(b:c∈a)(d:j∈c.2.blocks):j∈zE a:=eW.2 ⟨_,au.2 ⟨c,b,rfl⟩,d⟩
theorem VX{b:List (Pl×Tr h)}{f:En}(a:f∈zI b):∃c∈b,f∈c.2.ents:=by
 obtain⟨l,e,a⟩:=eW.1 a;obtain⟨c,d,rfl⟩:=au.1 e;exact⟨c,d,a⟩
theorem vz{a:List (Pl×Tr h)}{c:Pl×Tr h}{e:En}(b:c∈a)(d:e∈c.2.ents):e∈zI a:=eW.2 ⟨_,au.2 ⟨c,b,rfl⟩,d⟩
theorem Tr.LayV.congr{β:Type}{pg:Pg->β}{rd a:Nat->β}:∀{h:Nat} {t:Tr h},t.LayV pg rd->(∀j∈t.blocks,a j=rd j)->t.LayV pg a
 |0,t,l,h=>(h t.1 (az.2 rfl)).trans l
 |h+1,t,l,he=>⟨(he t.1 (al ..)).trans l.1,λc b=>(l.2 c b).congr (λj d=>he j (am _ (zU b d)))⟩
theorem uQ{A B:List (Pl×Tr h)}{tc tc':Tr h}(a:tc'.blocks.Perm (tc.blocks++nb)):
 (Tr.blocks (h:=h+1) (b,A++(q0,tc')::B)).Perm (Tr.blocks (h:=h+1) (b,A++(q0,tc)::B)++nb):=by
 show (b::zE (A++(q0,tc')::B)).Perm (b::zE (A++(q0,tc)::B)++nb);rw [qo,qA,qo,qA];simp only [aT,ak];refine List.Perm.cons b (i3 _ ?_);refine(a.append_right _).trans ?_;rw [ak];exact i3 _ eM
theorem jH{A B:List (Pl×Tr h)}{tc tc' uc:Tr h}(a:(tc'.blocks++uc.blocks).Perm (tc.blocks++nb)):
 (b::zE (A++(q0,tc')::(q,uc)::B)).Perm (Tr.blocks (h:=h+1) (b,A++(q0,tc)::B)++nb):=by
 show (b::zE (A++(q0,tc')::(q,uc)::B)).Perm (b::zE (A++(q0,tc)::B)++nb);rw [qo,qA,qA,qo,qA];simp only [aT,ak];refine List.Perm.cons b (i3 _ ?_);rw [<-ak];refine(a.append_right _).trans ?_;rw [ak];exact i3 _ eM
theorem uR{t:Tr (h+1)}{a:List (Pl×Tr h)}(c:(b::zE a).Perm (t.blocks++nb))(i:Nat):
 (Tr.blocks (h:=h+1) (b,a.take i)++Tr.blocks (h:=h+1) (ta,a.drop i)).Perm (t.blocks++(nb++[ta])):=by
 show (b::zE (a.take i)++ta::zE (a.drop i)).Perm _;have e:zE a=zE (a.take i)++zE (a.drop i):=by rw [<-qo,aE]
 refine List.perm_middle.trans ?_;rw [aT,<-e,<-ak];exact(c.cons ta).trans (eM (l₁:=[ta]))
theorem uh:∀(a:List (Pl×Tr h)),(∀c∈a,2*c.2.blocks.length+1<=c.2.ents.length)->2*(zE a).length+a.length<=(zI a).length
 |[],_=>by simp [zE,zI]
 |c::a,hc=>by have e:=hc c (al ..);have h2:=uh a (λd b=>hc d (am _ b));rw [qA,zr,ag,ag,ae];omega
theorem dZ(k:Nat):∀(a:List (Pl×Tr h)),(∀c∈a,k<=2*c.2.blocks.length+1)->a.length*k<=2*(zE a).length+a.length
 |[],_=>by simp
 |c::a,hc=>by have e:=hc c (al ..);have h2:=dZ k a (λd b=>hc d (am _ b));rw [qA,ag,ae,eJ];omega
theorem Tr.Good.few:∀{h:Nat} {t:Tr h},t.Good->3<=t.items.length->2*t.blocks.length+1<=t.ents.length
 |0,t,_,hl=>hl
 |h+1,t,g,hl=>by have:=uh t.2 (λc a=>(g.kids.good c a).1.few (g.full c a));rw [yI] at hl;rw [Tr.blocks_succ,Tr.ents_succ,ae];omega
theorem Tr.Good.many:∀{h:Nat} {t:Tr h},t.Good->3<=t.items.length->3^(h+1)<=2*t.blocks.length+1
 |0,t,_,hl=>by show 3<=2*1+1;omega
 |h+1,t,g,hl=>by
  have:=dZ (3^(h+1)) t.2 (λc a=>(g.kids.good c a).1.many (g.full c a));rw [yI] at hl;rw [Tr.blocks_succ,ae,lQ,Nat.mul_comm]
  have h2:3*3^(h+1)-3<=t.2.length*3^(h+1)-t.2.length:=by rw [<-mf,<-mf];exact ee _ hl
  have b:t.2.length<=t.2.length*3^(h+1):=ly _ (mN (by omega));have d:3<=3*3^(h+1):=ly _ (mN (by omega));omega
def ye:Pl:=⟨⟨#[]⟩,0⟩
structure Tr.Root {h:Nat} (t:Tr h):Prop where
 good:t.Good
 hi:t.items.length<=6
 one:1<=t.items.length
 two:0<h->2<=t.items.length
 first:t.First ye
 srt:yL t.ents
theorem Tr.Root.few:∀{h:Nat} {t:Tr h},t.Root->2*t.blocks.length<=t.ents.length+1
 |0,t,r=>by have:=r.one;show 2*1<=t.2.length+1;have h2:t.2.length=t.items.length:=rfl;omega
 |h+1,t,r=>by have:=uh t.2 (λc a=>(r.good.kids.good c a).1.few (r.good.full c a));have b:=r.two (by omega);rw [yI] at b;rw [Tr.blocks_succ,Tr.ents_succ,ae];omega
theorem Tr.Root.many:∀{h:Nat} {t:Tr h},t.Root->3^h<=t.blocks.length
 |0,t,r=>by show 1<=1;omega
 |h+1,t,r=>by
  have:=dZ (3^(h+1)) t.2 (λc a=>(r.good.kids.good c a).1.many (r.good.full c a));have b:=r.two (by omega);rw [yI] at b;rw [Tr.blocks_succ,ae]
  have h2:2*3^(h+1)-2<=t.2.length*3^(h+1)-t.2.length:=by rw [<-mf,<-mf];exact ee _ b
  have d:t.2.length<=t.2.length*3^(h+1):=ly _ (mN (by omega));have e:2<=2*3^(h+1):=ly _ (mN (by omega));omega
theorem Tr.Root.low{t:Tr h}(r:t.Root)(b:t.blocks.length<=979):h<=6:=by
 have:=r.many;by_cases a:h<=6;.exact a
 .have:3^7<=3^h:=lf (by omega) (by omega);omega
theorem UY(h:Nat):h+1<=3^h:=by
 induction h with
 |zero=>decide
 |succ h a=>rw [lQ];omega
end prog
end Go.Proofs.YtcoengihaobddaaGreatDoor

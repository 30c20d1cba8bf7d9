/- Part 7 of 50 of a proof: Ins8, Tr3, Tr4, Disk7 -/
import Derived.Test.YtcoengihaobddaaGreatDoorJe06
set_option maxHeartbeats 8000000
set_option linter.unusedVariables false
set_option linter.unusedSimpArgs false
set_option maxRecDepth 8000
namespace Go.Proofs.YtcoengihaobddaaGreatDoor
namespace prog
open Go.ChangeShapes Go.WideShapes Go.ChangeAt Go.RowKit disk ref
open keys (zg zd zq zl)
theorem JQ(w:World)(L bd:Nat)(S T:Nat->Prop)(D:Dk)(C:Ck)(h:Cw w L bd S T D C)(m:List UInt8)(dp:qP (C.look D 2) m)(cS:0<=D.reads)(M:Nat)(ew:M<=1000)(ej:D.reads<=4611686018427380000)(B:Nat)(dc:B<65536)(es:List En)(aZ:∀e∈es,e.Ok)(cY:∀e∈es,e.mark=false/\e.size=0)(cr:es.length<=6)(c6:xi es)(c8:C.look D B=zo (zc 4 es))(e:En)(ds:e.Ok)(d2:C.ws.length<700)(F:Ck)(ag:List UInt8)(ar:qP (F.look D 2) ag)(df:F.ws.length<700)(c:Nat)(t:zK es e.pl=c)(de:c<es.length)(d:En)(bo:d.Ok)(bz:Below L bd S T D C es[c].at_ e M true (qE d) F)(s:List En)(ax:es.take (c+1)++d::es.drop (c+1)=s)(f:Bool)(v:List Value)(bu:Ck)(bI:List UInt8)(bZ:F.more D.bs.length ag B 4 s=(f,v,bu,bI)):
 Calls Tryz.prog 137 #[.pointer (some ⟨L,0,none⟩),.int .i64 B,.agg (qE e).toArray] w λr w'=>r=.returned (.tuple #[.agg v.toArray,.bool f])/\(∃(n:Int) (c9:Nat->Prop),0<=n/\n<=M+2/\Cw w' L bd S c9 {D with reads:=D.reads+n} bu/\∀j,c9 j->T j\/w.heap.size<=j)/\Kept (λj=>j=bd\/T j) w w':=by
 have dd:Hid (qP (F.look D 2) ag):=ar;have d9:Hid d.Ok:=bo;have cW:Hid (es.take (c+1)++d::es.drop (c+1)=s):=ax;have a7:Hid (F.more D.bs.length ag B 4 s=(f,v,bu,bI)):=bZ;have a9:s.length=es.length+1:=by rw [<-ax];simp only [ah,ay,ae,aU];omega
 have bi:Hid (∀dg∈s,dg.Ok):=λdg aH=>by
  rw [<-ax] at aH;rcases aj.1 aH with aH|aH;.exact aZ dg (aJ aH)
  .rcases aq.1 aH with rfl|aH;.exact bo
   .exact aZ dg (eJ aH)
 clear ar bo ax bZ;have bB:Hid _:=h;have di:Hid (∀e∈es,e.mark=false/\e.size=0):=cY;have c0:Hid (∀e∈es,e.Ok):=aZ;have cN:Hid (xi es):=c6;change Hid _ at dp bz c8;clear h aZ c6 ds cY;have ef:bd<w.heap.size:=bB.disk.lt bd bB.disk.bdS;have W:Hid (∀j,T j->j<w.heap.size):=bB.chg.lt;have aT:Hid (∀j,S j->j<w.heap.size):=bB.disk.lt;have aS:Hid (Kept (λ_=>False) w ((w.alloc (.cells (qE e).toArray 109)).alloc (.cells qI.toArray 109))):=Kept.alloc2 _ _ _;have bg:Hid (((w.alloc (.cells (qE e).toArray 109)).alloc (.cells qI.toArray 109)).heap[w.heap.size+1]? =some (.cells qI.toArray 109 (0,0))):=heap_alloc2_new w _ _;have bx:Hid (((w.alloc (.cells (qE e).toArray 109)).alloc (.cells qI.toArray 109)).heap[w.heap.size]? =some (.cells (qE e).toArray 109 (0,0))):=((Kept.alloc (λ_=>False) _ _).block w.heap.size (by simp) id).trans (heap_alloc_new w _);have b5:((w.alloc (.cells (qE e).toArray 109)).alloc (.cells qI.toArray 109)).heap.size=w.heap.size+2:=by simp
 unfold qI at aS bg bx b5;unfold qE at aS bg bx b5 ⊢;go_enter Tryz.func137,Tryz.ntmps137;go_wp2_with fail;change Hid (Kept _ w ((w.alloc (.cells #[.string e.pl.key,.int .i64 e.pl.num,.bool e.mark,.int .i64 (e.size:Int),.int .i64 (e.at_:Int)] 109)).alloc (.cells #[.string ⟨#[]⟩,.int .i64 0,.bool false,.int .i64 0,.int .i64 0] 109))) at aS;generalize ((w.alloc (.cells #[.string e.pl.key,.int .i64 e.pl.num,.bool e.mark,.int .i64 (e.size:Int),.int .i64 (e.at_:Int)] 109)).alloc (.cells #[.string ⟨#[]⟩,.int .i64 0,.bool false,.int .i64 0,.int .i64 0] 109))=b9 at*;refine(yR b9 L bd S T D C (bB.kept0 aS) cS (by omega) B dc 4 es (.inl rfl) c0 (λ_=>di) cr c8).mono ?_;rintro r o ⟨a,cap,rfl,⟨K,c7,cI,bj⟩,aM,ai,a5,bh⟩;have cU:Hid (Kept (λj=>j=bd) b9 o):=aM;have bR:Hid (o.ownsRow 0 109 5 (.slice a es.length cap) es.length (zj es)):=a5;have dT:=aM.size;have aX:Hid (o.heap[w.heap.size]? =_):=(aM.block _ (by omega) (by omega)).trans bx.out;have cm:Hid (o.heap[w.heap.size+1]? =_):=(aM.block _ (by omega) (by omega)).trans bg.out;change Hid _ at bj bh ai;clear aM a5;have dS:o.cell? ⟨w.heap.size,0,none⟩=some (.string e.pl.key):=cR aX.out rfl;have dA:o.cell? ⟨w.heap.size,1,none⟩=some (.int .i64 e.pl.num):=cR aX.out rfl;have du:w.heap.size<o.heap.size:=by omega
 have br:∀j,(Value.slice a es.length cap).ownBlock=some j->b9.heap.size<=j/\j<o.heap.size:=λj p=>⟨bh j p,(bR.lt j p).2⟩;have O:Hid (∀j,(Value.slice a es.length cap).ownBlock=some j->b9.heap.size<=j/\j<o.heap.size):=br;clear br;go_wp2_with fail;have b7:Hid (Kept (λ_=>False) o (o.alloc (.cells #[.int .u8 4,.slice a es.length cap] 209))):=Kept.alloc _ _ _;have cQ:Hid ((o.alloc (.cells #[.int .u8 4,.slice a es.length cap] 209)).heap[o.heap.size]? =some (.cells #[.int .u8 4,.slice a es.length cap] 209 (0,0))):=heap_alloc_new o _;have eq:(o.alloc (.cells #[.int .u8 4,.slice a es.length cap] 209)).heap.size=o.heap.size+1:=by simp
 generalize (o.alloc (.cells #[.int .u8 4,.slice a es.length cap] 209))=dG at*;refine(kf dG _ a cap es (ai.kept b7 nF) cN 4 e.pl).mono ?_;rintro r af ⟨rfl,a0⟩;have a6:Hid (Kept (λ_=>False) o af):=b7.trans a0 iL;have dJ:=a0.size;have aY:Hid (af.heap[o.heap.size]? =_):=(a0.block _ (by omega) id).trans cQ.out;clear a0;have Z:Hid (af.heap[w.heap.size]? =_):=(a6.block _ (by omega) id).trans aX.out;have cg:Hid (af.heap[w.heap.size+1]? =_):=(a6.block _ (by omega) id).trans cm.out;have bH:af.cell? ⟨w.heap.size,0,none⟩=some (.string e.pl.key):=cR Z.out rfl;have bK:af.cell? ⟨w.heap.size,1,none⟩=some (.int .i64 e.pl.num):=cR Z.out rfl;have bF:af.cell? ⟨w.heap.size,2,none⟩=some (.bool e.mark):=cR Z.out rfl;have bG:af.cell? ⟨w.heap.size,3,none⟩=some (.int .i64 (e.size:Int)):=cR Z.out rfl;have bM:af.cell? ⟨w.heap.size,4,none⟩=some (.int .i64 (e.at_:Int)):=cR Z.out rfl;have dD:af.cell? ⟨o.heap.size,0,none⟩=some (.int .u8 4):=cR aY.out rfl;have bL:af.cell? ⟨o.heap.size,1,none⟩=some (.slice a es.length cap):=cR aY.out rfl;have cV:Hid (zK es e.pl=c):=t;generalize zr es e.pl=i at*;clear t;go_wp2_with fail;refine(uJ af _ a cap es (ai.kept a6 nF) cN 4 e.pl).mono ?_;rintro r k ⟨rfl,au⟩;rw [cV.out];have aG:Hid (Kept (λ_=>False) o k):=a6.trans au iL;have dq:=au.size;have aV:Hid (k.heap[o.heap.size]? =_):=(au.block _ (by omega) id).trans aY.out;have Q:Hid (k.heap[w.heap.size]? =_):=(au.block _ (by omega) id).trans Z.out;have bm:Hid (k.heap[w.heap.size+1]? =_):=(au.block _ (by omega) id).trans cg.out;have bV:Hid (ql k (λb=>b9.heap.size<=b) a es):=ai.kept aG nF;have cF:Hid (k.ownsRow 0 109 5 (.slice a es.length cap) es.length (zj es)):=aG.owns bR nF;have bp:Hid (Cw k.drew L bd S T {D with reads:=D.reads+K} C):=(bj.kept0 aG).kept0 (Kept.drew _ k);have bq:Hid (Kept (λj=>j=bd\/T j) w k):=((aS.mono fE).trans cU (λ_ h=>.inl (.inl h))).trans aG fE;clear au bH bK bF bG bM dD bL dS dA;obtain⟨g,aE,rfl⟩:=bV.base (by omega);obtain⟨-, -, -, -, cp, -, d5⟩:=bV.cells c de;have en:b9.heap.size<=g/\g<o.heap.size:=O.out g rfl;have a4:Hid (∀w0:World,Cw w0 L bd S T {D with reads:=D.reads+K} C->_):=λw0 da=>bz.go w0 K c7 cI da;generalize es[c].at_=cj at*;have bH:k.cell? ⟨w.heap.size,0,none⟩=some (.string e.pl.key):=cR Q.out rfl;have bK:k.cell? ⟨w.heap.size,1,none⟩=some (.int .i64 e.pl.num):=cR Q.out rfl;have bF:k.cell? ⟨w.heap.size,2,none⟩=some (.bool e.mark):=cR Q.out rfl;have bG:k.cell? ⟨w.heap.size,3,none⟩=some (.int .i64 (e.size:Int)):=cR Q.out rfl;have bM:k.cell? ⟨w.heap.size,4,none⟩=some (.int .i64 (e.at_:Int)):=cR Q.out rfl;have bL:k.cell? ⟨o.heap.size,1,none⟩=some (.slice (some ⟨g,aE,none⟩) es.length cap):=cR aV.out rfl;have d3:(c:Int)<(es.length:Int):=by omega
 have bY:∀j,w.heap.size<=j->¬(j=bd\/T j):=λj p t=>t.elim (λh=>by omega) (λh=>by have:=W.out j h;omega);have N:Hid (∀j,w.heap.size<=j->¬(j=bd\/T j)):=bY;clear bY;unfold qE at a4;have dU:¬k.heap.size=o.heap.size:=by omega
 have dX:¬k.heap.size=g:=by omega
 have dM:¬k.heap.size=w.heap.size:=by omega
 have ap:Hid (Kept (λ_=>False) k k.drew):=Kept.drew _ k;have R:Hid (Kept (λ_=>False) k (k.alloc (.cells #[.string ⟨#[]⟩,.int .i64 0,.bool false,.int .i64 0,.int .i64 0] 109)).drew):=(Kept.alloc _ _ _).trans (Kept.drew _ _) iL;have a1:Hid (Cw (k.alloc (.cells #[.string ⟨#[]⟩,.int .i64 0,.bool false,.int .i64 0,.int .i64 0] 109)).drew L bd S T {D with reads:=D.reads+K} C):=(bj.kept0 aG).kept0 R.out;have cL:(k.alloc (.cells #[.string ⟨#[]⟩,.int .i64 0,.bool false,.int .i64 0,.int .i64 0] 109)).heap.size=k.heap.size+1:=by simp
 go_wp2_with fail
 go_region_held3 (λw'=>w'.cell? ⟨o.heap.size,1,none⟩=some (.slice (some ⟨g,aE,none⟩) es.length cap)/\w'.cell? ⟨g,aE+c*5+4,none⟩=some (.int .i64 (cj:Int))/\w'.cell? ⟨w.heap.size,0,none⟩=some (.string e.pl.key)/\w'.cell? ⟨w.heap.size,1,none⟩=some (.int .i64 e.pl.num)/\w'.cell? ⟨w.heap.size,2,none⟩=some (.bool e.mark)/\w'.cell? ⟨w.heap.size,3,none⟩=some (.int .i64 (e.size:Int))/\w'.cell? ⟨w.heap.size,4,none⟩=some (.int .i64 (e.at_:Int))) (go_keep) ((go_at_call 137;first
  |(refine(a4 _ (by exact bp)).mono ?_;rintro r l ⟨rfl,⟨U,H,cl,ce,aP,aN⟩,ac⟩;have aO:Hid _:=aP;have a2:Hid (∀j,H j->T j\/k.drew.heap.size<=j):=aN;have bX:Hid (Kept (λj=>j=bd\/T j) k.drew l):=ac;have u:Hid (Kept (λj=>j=bd\/T j) k l):=(ap.mono fE).trans ac iL;have aw:Hid (l.heap[o.heap.size]? =_):=(u.block _ (show o.heap.size<k.heap.size by omega) (N _ (by omega))).trans aV.out;have z:Hid (l.heap[w.heap.size]? =_):=(u.block _ (show w.heap.size<k.heap.size by omega) (N _ (by omega))).trans Q.out;have bD:Hid (l.heap[w.heap.size+1]? =_):=(u.block _ (show w.heap.size+1<k.heap.size by omega) (N _ (by omega))).trans bm.out;have b0:l.cell? ⟨o.heap.size,1,none⟩=some (.slice (some ⟨g,aE,none⟩) es.length cap):=(cR aw.out rfl);have bS:l.cell? ⟨g,aE+c*5+4,none⟩=some (.int .i64 (cj:Int)):=(u.cell (a:=⟨g,aE+c*5+4,none⟩) (show g<k.heap.size by omega) (N g (by omega))).trans cp;have b6:l.cell? ⟨w.heap.size,0,none⟩=some (.string e.pl.key):=(cR z.out rfl);have b4:l.cell? ⟨w.heap.size,1,none⟩=some (.int .i64 e.pl.num):=(cR z.out rfl);have b3:l.cell? ⟨w.heap.size,2,none⟩=some (.bool e.mark):=(cR z.out rfl);have bW:l.cell? ⟨w.heap.size,3,none⟩=some (.int .i64 (e.size:Int)):=(cR z.out rfl);have bT:l.cell? ⟨w.heap.size,4,none⟩=some (.int .i64 (e.at_:Int)):=(cR z.out rfl);have bc:k.heap.size<=l.heap.size:=u.size;have em:¬o.heap.size=l.heap.size:=(by omega);have d7:¬g=l.heap.size:=(by omega);have ed:¬w.heap.size=l.heap.size:=(by omega);clear aP aN ac)
  |(refine(a4 _ (by exact a1)).mono ?_;rintro r l ⟨rfl,⟨U,H,cl,ce,aP,aN⟩,ac⟩;have aO:Hid _:=aP;have a2:Hid (∀j,H j->T j\/(k.alloc (.cells #[.string ⟨#[]⟩,.int .i64 0,.bool false,.int .i64 0,.int .i64 0] 109)).drew.heap.size<=j):=aN;have bX:Hid (Kept (λj=>j=bd\/T j) (k.alloc (.cells #[.string ⟨#[]⟩,.int .i64 0,.bool false,.int .i64 0,.int .i64 0] 109)).drew l):=ac;have u:Hid (Kept (λj=>j=bd\/T j) k l):=(R.mono fE).trans ac iL;have aw:Hid (l.heap[o.heap.size]? =_):=(u.block _ (show o.heap.size<k.heap.size by omega) (N _ (by omega))).trans aV.out;have z:Hid (l.heap[w.heap.size]? =_):=(u.block _ (show w.heap.size<k.heap.size by omega) (N _ (by omega))).trans Q.out;have bD:Hid (l.heap[w.heap.size+1]? =_):=(u.block _ (show w.heap.size+1<k.heap.size by omega) (N _ (by omega))).trans bm.out;have b0:l.cell? ⟨o.heap.size,1,none⟩=some (.slice (some ⟨g,aE,none⟩) es.length cap):=(cR aw.out rfl);have bS:l.cell? ⟨g,aE+c*5+4,none⟩=some (.int .i64 (cj:Int)):=(u.cell (a:=⟨g,aE+c*5+4,none⟩) (show g<k.heap.size by omega) (N g (by omega))).trans cp;have b6:l.cell? ⟨w.heap.size,0,none⟩=some (.string e.pl.key):=(cR z.out rfl);have b4:l.cell? ⟨w.heap.size,1,none⟩=some (.int .i64 e.pl.num):=(cR z.out rfl);have b3:l.cell? ⟨w.heap.size,2,none⟩=some (.bool e.mark):=(cR z.out rfl);have bW:l.cell? ⟨w.heap.size,3,none⟩=some (.int .i64 (e.size:Int)):=(cR z.out rfl);have bT:l.cell? ⟨w.heap.size,4,none⟩=some (.int .i64 (e.at_:Int)):=(cR z.out rfl);have bc:k.heap.size<=l.heap.size:=u.size;have I:Hid (l.heap[k.heap.size]? =some (.cells #[.string ⟨#[]⟩,.int .i64 0,.bool false,.int .i64 0,.int .i64 0] 109 (0,0))):=(ac.block k.heap.size (show k.heap.size<(k.alloc (.cells #[.string ⟨#[]⟩,.int .i64 0,.bool false,.int .i64 0,.int .i64 0] 109)).heap.size by rw [cL];omega) (N _ (by omega))).trans (heap_alloc_new k _);have ea:l.cell? ⟨k.heap.size,0,none⟩=some (.string ⟨#[]⟩):=(cR I.out rfl);have er:=aa l k.heap.size 0 _ _ I.out;have et:l.cell? ⟨k.heap.size,1,none⟩=some (.int .i64 0):=(cR I.out rfl);have el:=aa l k.heap.size 1 _ _ I.out;have eb:l.cell? ⟨k.heap.size,2,none⟩=some (.bool false):=(cR I.out rfl);have ee:=aa l k.heap.size 2 _ _ I.out;have ep:l.cell? ⟨k.heap.size,3,none⟩=some (.int .i64 0):=(cR I.out rfl);have ec:=aa l k.heap.size 3 _ _ I.out;have eh:l.cell? ⟨k.heap.size,4,none⟩=some (.int .i64 0):=(cR I.out rfl);have d8:=aa l k.heap.size 4 _ _ I.out;clear aP aN ac)))
 have bN:Hid (Kept (λ_=>False) l (l.alloc (.cells #[.string d.pl.key,.int .i64 d.pl.num,.bool d.mark,.int .i64 (d.size:Int),.int .i64 (d.at_:Int)] 109))):=Kept.alloc _ _ _;have am:Hid ((l.alloc (.cells #[.string d.pl.key,.int .i64 d.pl.num,.bool d.mark,.int .i64 (d.size:Int),.int .i64 (d.at_:Int)] 109)).heap[l.heap.size]? =some (.cells #[.string d.pl.key,.int .i64 d.pl.num,.bool d.mark,.int .i64 (d.size:Int),.int .i64 (d.at_:Int)] 109 (0,0))):=heap_alloc_new l _;have bk:Hid (Cw (l.alloc (.cells #[.string d.pl.key,.int .i64 d.pl.num,.bool d.mark,.int .i64 (d.size:Int),.int .i64 (d.at_:Int)] 109)) L bd S H {D with reads:=D.reads+K+U} F):=aO.kept0 (Kept.alloc _ _ _);have aF:Hid (∀j,j<k.heap.size->(l.alloc (.cells #[.string d.pl.key,.int .i64 d.pl.num,.bool d.mark,.int .i64 (d.size:Int),.int .i64 (d.at_:Int)] 109)).heap[j]? =l.heap[j]?):=λj p=>bN.block j (by omega) id;have bn:Hid (Kept (λj=>j=bd\/T j) w (l.alloc (.cells #[.string d.pl.key,.int .i64 d.pl.num,.bool d.mark,.int .i64 (d.size:Int),.int .i64 (d.at_:Int)] 109))):=(bq.trans u iL).trans (Kept.alloc (λ_=>False) _ _) fE;have bw:Hid (Kept (λj=>j=bd\/T j) k _):=u.trans (Kept.alloc (λ_=>False) l (.cells #[.string d.pl.key,.int .i64 d.pl.num,.bool d.mark,.int .i64 (d.size:Int),.int .i64 (d.at_:Int)] 109)) fE;have J:Hid (∀j,H j->T j\/k.heap.size<=j):=a2.out;have ci:l.heap.size<=(l.alloc (.cells #[.string d.pl.key,.int .i64 d.pl.num,.bool d.mark,.int .i64 (d.size:Int),.int .i64 (d.at_:Int)] 109)).heap.size:=by simp
 have cd:k.heap.size<=l.heap.size/\l.heap.size<(l.alloc (.cells #[.string d.pl.key,.int .i64 d.pl.num,.bool d.mark,.int .i64 (d.size:Int),.int .i64 (d.at_:Int)] 109)).heap.size:=⟨bc,by simp⟩;have aW:Hid (¬H l.heap.size):=λt=>by have:=aO.chg.lt _ t;omega
 clear bN;generalize (l.alloc (.cells #[.string d.pl.key,.int .i64 d.pl.num,.bool d.mark,.int .i64 (d.size:Int),.int .i64 (d.at_:Int)] 109))=X at*;generalize ct:l.heap.size=ba at*
 rotate_left
 obtain⟨bf,ao⟩:=vK l k.heap.size 109 _ _ _ _ _ (.string d.pl.key) (.int .i64 d.pl.num) (.bool d.mark) (.int .i64 (d.size:Int)) (.int .i64 (d.at_:Int)) I.out;have am:Hid ((((((l.setCell ⟨k.heap.size,0,none⟩ (.string d.pl.key)).setCell ⟨k.heap.size,1,none⟩ (.int .i64 d.pl.num)).setCell ⟨k.heap.size,2,none⟩ (.bool d.mark)).setCell ⟨k.heap.size,3,none⟩ (.int .i64 (d.size:Int))).setCell ⟨k.heap.size,4,none⟩ (.int .i64 (d.at_:Int))).heap[k.heap.size]? =some (.cells #[.string d.pl.key,.int .i64 d.pl.num,.bool d.mark,.int .i64 (d.size:Int),.int .i64 (d.at_:Int)] 109 (0,0))):=bf;have aF:Hid (∀j,j<k.heap.size->(((((l.setCell ⟨k.heap.size,0,none⟩ (.string d.pl.key)).setCell ⟨k.heap.size,1,none⟩ (.int .i64 d.pl.num)).setCell ⟨k.heap.size,2,none⟩ (.bool d.mark)).setCell ⟨k.heap.size,3,none⟩ (.int .i64 (d.size:Int))).setCell ⟨k.heap.size,4,none⟩ (.int .i64 (d.at_:Int))).heap[j]? =l.heap[j]?):=λj p=>ao.block j (by omega) (by omega);have J:Hid (∀j,H j->T j\/k.heap.size<=j):=λj p=>(a2 j p).imp id (λh=>by have dV:(k.alloc (.cells #[.string ⟨#[]⟩,.int .i64 0,.bool false,.int .i64 0,.int .i64 0] 109)).heap.size<=j:=h;omega)
 have aW:Hid (¬H k.heap.size):=λt=>by
  rcases a2 _ t with G|G;.have:=W.out _ G;omega
  .have dV:(k.alloc (.cells #[.string ⟨#[]⟩,.int .i64 0,.bool false,.int .i64 0,.int .i64 0] 109)).heap.size<=k.heap.size:=G;omega
 have bk:Hid (Cw (((((l.setCell ⟨k.heap.size,0,none⟩ (.string d.pl.key)).setCell ⟨k.heap.size,1,none⟩ (.int .i64 d.pl.num)).setCell ⟨k.heap.size,2,none⟩ (.bool d.mark)).setCell ⟨k.heap.size,3,none⟩ (.int .i64 (d.size:Int))).setCell ⟨k.heap.size,4,none⟩ (.int .i64 (d.at_:Int))) L bd S H {D with reads:=D.reads+K+U} F):=aO.kept ao (λj p ak=>by have:=aT.out j p;omega) (λj p ak=>aW (by rw [<-ak];exact p));have bn:Hid (Kept (λj=>j=bd\/T j) w (((((l.setCell ⟨k.heap.size,0,none⟩ (.string d.pl.key)).setCell ⟨k.heap.size,1,none⟩ (.int .i64 d.pl.num)).setCell ⟨k.heap.size,2,none⟩ (.bool d.mark)).setCell ⟨k.heap.size,3,none⟩ (.int .i64 (d.size:Int))).setCell ⟨k.heap.size,4,none⟩ (.int .i64 (d.at_:Int)))):=(bq.trans u iL).trans ao (λj p=>.inr (by omega));have bw:Hid (Kept (λj=>j=bd\/T j) k _):=u.trans ao (λj p=>.inr (by omega));have ci:l.heap.size<=(((((l.setCell ⟨k.heap.size,0,none⟩ (.string d.pl.key)).setCell ⟨k.heap.size,1,none⟩ (.int .i64 d.pl.num)).setCell ⟨k.heap.size,2,none⟩ (.bool d.mark)).setCell ⟨k.heap.size,3,none⟩ (.int .i64 (d.size:Int))).setCell ⟨k.heap.size,4,none⟩ (.int .i64 (d.at_:Int))).heap.size:=ao.size;have cd:k.heap.size<=k.heap.size/\k.heap.size<(((((l.setCell ⟨k.heap.size,0,none⟩ (.string d.pl.key)).setCell ⟨k.heap.size,1,none⟩ (.int .i64 d.pl.num)).setCell ⟨k.heap.size,2,none⟩ (.bool d.mark)).setCell ⟨k.heap.size,3,none⟩ (.int .i64 (d.size:Int))).setCell ⟨k.heap.size,4,none⟩ (.int .i64 (d.at_:Int))).heap.size:=⟨aC _,(lT bf)⟩;clear bf ao I;generalize (((((l.setCell ⟨k.heap.size,0,none⟩ (.string d.pl.key)).setCell ⟨k.heap.size,1,none⟩ (.int .i64 d.pl.num)).setCell ⟨k.heap.size,2,none⟩ (.bool d.mark)).setCell ⟨k.heap.size,3,none⟩ (.int .i64 (d.size:Int))).setCell ⟨k.heap.size,4,none⟩ (.int .i64 (d.at_:Int)))=X at*;generalize ct:k.heap.size=ba at am cd aW ⊢
 rotate_left
 all_goals
  have cw:Hid (X.heap[o.heap.size]? =_):=(aF _ (by omega)).trans aw.out;have A:Hid (X.heap[w.heap.size]? =_):=(aF _ (by omega)).trans z.out;have ch:Hid (X.heap[w.heap.size+1]? =_):=(aF _ (by omega)).trans bD.out;have cP:Hid (X.ownsRow 0 109 5 (.slice (some ⟨g,aE,none⟩) es.length cap) es.length (zj es)):=bw.owns cF (λj p=>N j (by have:=O.out j p;omega));have cx:Hid (∀j,H j->j<X.heap.size):=bk.chg.lt;clear b0 bS b6 b4 b3 bW bT bH bK bF bG bM bL cp aF u bX aO bp a1 ap R a4;have u0:X.cell? ⟨ba,0,none⟩=some (.string d.pl.key):=cR am.out rfl;have dE:X.cell? ⟨w.heap.size,0,none⟩=some (.string e.pl.key):=cR A.out rfl;have c1:=aa X w.heap.size 0 _ _ A.out;have u1:X.cell? ⟨ba,1,none⟩=some (.int .i64 d.pl.num):=cR am.out rfl;have dj:X.cell? ⟨w.heap.size,1,none⟩=some (.int .i64 e.pl.num):=cR A.out rfl;have c5:=aa X w.heap.size 1 _ _ A.out;have u2:X.cell? ⟨ba,2,none⟩=some (.bool d.mark):=cR am.out rfl;have dL:X.cell? ⟨w.heap.size,2,none⟩=some (.bool e.mark):=cR A.out rfl;have cC:=aa X w.heap.size 2 _ _ A.out;have u3:X.cell? ⟨ba,3,none⟩=some (.int .i64 (d.size:Int)):=cR am.out rfl;have dl:X.cell? ⟨w.heap.size,3,none⟩=some (.int .i64 (e.size:Int)):=cR A.out rfl;have cK:=aa X w.heap.size 3 _ _ A.out;have u4:X.cell? ⟨ba,4,none⟩=some (.int .i64 (d.at_:Int)):=cR am.out rfl;have dn:X.cell? ⟨w.heap.size,4,none⟩=some (.int .i64 (e.at_:Int)):=cR A.out rfl;have cX:=aa X w.heap.size 4 _ _ A.out;go_wp2
  go_region
  obtain⟨ca,b1⟩:=vK X w.heap.size 109 _ _ _ _ _ (.string d.pl.key) (.int .i64 d.pl.num) (.bool d.mark) (.int .i64 (d.size:Int)) (.int .i64 (d.at_:Int)) A.out;have an:Hid ((((((X.setCell ⟨w.heap.size,0,none⟩ (.string d.pl.key)).setCell ⟨w.heap.size,1,none⟩ (.int .i64 d.pl.num)).setCell ⟨w.heap.size,2,none⟩ (.bool d.mark)).setCell ⟨w.heap.size,3,none⟩ (.int .i64 (d.size:Int))).setCell ⟨w.heap.size,4,none⟩ (.int .i64 (d.at_:Int))).drew.heap[w.heap.size]? =_):=ca;have Y:Hid (Kept (λj=>j=w.heap.size) X (((((X.setCell ⟨w.heap.size,0,none⟩ (.string d.pl.key)).setCell ⟨w.heap.size,1,none⟩ (.int .i64 d.pl.num)).setCell ⟨w.heap.size,2,none⟩ (.bool d.mark)).setCell ⟨w.heap.size,3,none⟩ (.int .i64 (d.size:Int))).setCell ⟨w.heap.size,4,none⟩ (.int .i64 (d.at_:Int))).drew):=b1.trans (Kept.drew (λ_=>False) _) fE;clear ca b1;generalize (((((X.setCell ⟨w.heap.size,0,none⟩ (.string d.pl.key)).setCell ⟨w.heap.size,1,none⟩ (.int .i64 d.pl.num)).setCell ⟨w.heap.size,2,none⟩ (.bool d.mark)).setCell ⟨w.heap.size,3,none⟩ (.int .i64 (d.size:Int))).setCell ⟨w.heap.size,4,none⟩ (.int .i64 (d.at_:Int))).drew=E at*;have dW:=Y.size;have bs:Hid (E.heap[o.heap.size]? =_):=(Y.block _ (by omega) (by omega)).trans cw.out;have cv:Hid (E.heap[w.heap.size+1]? =_):=(Y.block _ (by omega) (by omega)).trans ch.out;have cB:Hid (E.ownsRow 0 109 5 (.slice (some ⟨g,aE,none⟩) es.length cap) es.length (zj es)):=Y.owns cP (λj p ak=>by have:=O.out j p;omega)
  have cy:Hid (Cw E L bd S H {D with reads:=D.reads+K+U} F):=bk.kept Y (λj p ak=>by have:=aT.out j p;omega) (λj p ak=>by
   rcases J j p with G|G;.have:=W.out j G;omega
   .omega)
  have cO:Hid (Kept (λj=>j=bd\/T j) w E):=bn.trans Y (λj p=>.inr (by omega));clear u0 u1 u2 u3 u4 dE dj dL dl dn c1 c5 cC cK cX;have bH:E.cell? ⟨w.heap.size,0,none⟩=some (.string d.pl.key):=cR an.out rfl;have bK:E.cell? ⟨w.heap.size,1,none⟩=some (.int .i64 d.pl.num):=cR an.out rfl;have bF:E.cell? ⟨w.heap.size,2,none⟩=some (.bool d.mark):=cR an.out rfl;have bG:E.cell? ⟨w.heap.size,3,none⟩=some (.int .i64 (d.size:Int)):=cR an.out rfl;have bM:E.cell? ⟨w.heap.size,4,none⟩=some (.int .i64 (d.at_:Int)):=cR an.out rfl;have bL:E.cell? ⟨o.heap.size,1,none⟩=some (.slice (some ⟨g,aE,none⟩) es.length cap):=cR bs.out rfl;go_wp2_with fail;rw [show ((c:Nat):Int)+1=((c+1:Nat):Int) from by omega];have a8:Hid (Kept (λ_=>False) E (E.alloc (.cells #[.string d.pl.key,.int .i64 d.pl.num,.bool d.mark,.int .i64 (d.size:Int),.int .i64 (d.at_:Int)] 109))):=Kept.alloc _ _ _;have cT:Hid ((E.alloc (.cells #[.string d.pl.key,.int .i64 d.pl.num,.bool d.mark,.int .i64 (d.size:Int),.int .i64 (d.at_:Int)] 109)).heap[E.heap.size]? =some (.cells (qE d).toArray 109 (0,0))):=heap_alloc_new E _;have ei:(E.alloc (.cells #[.string d.pl.key,.int .i64 d.pl.num,.bool d.mark,.int .i64 (d.size:Int),.int .i64 (d.at_:Int)] 109)).heap.size=E.heap.size+1:=by simp
  generalize (E.alloc (.cells #[.string d.pl.key,.int .i64 d.pl.num,.bool d.mark,.int .i64 (d.size:Int),.int .i64 (d.at_:Int)] 109))=dO at*;refine(fi dO (some ⟨g,aE,none⟩) es.length cap (c+1) es rfl (a8.owns cB nF) E.heap.size (λt=>by have:=(O _ t).2;omega) d cT (by omega) (by omega)).mono ?_;rintro r V ⟨y,ad,rfl,ab⟩;rw [cW.out] at ab;have dF:=ab.kept.size;have be:∀j,o.heap.size<=j\/j<b9.heap.size->¬(Value.slice (some ⟨g,aE,none⟩) es.length cap).ownBlock=some j:=λj p t=>by have:=O.out j t;omega
  have av:Hid (V.heap[o.heap.size]? =_):=(ab.kept.block _ (by omega) (be _ (.inl (aC _)))).trans ((a8.block _ (by omega) id).trans bs);have ck:Hid (V.heap[w.heap.size+1]? =_):=(ab.kept.block _ (by omega) (be _ (.inr (by omega)))).trans ((a8.block _ (by omega) id).trans cv)
  have cG:b9.heap.size<=y/\y≠o.heap.size/\¬H y:=by
   rcases ab.at_ with G|G;.have:=O.out y G;exact⟨by omega,by omega,λt=>(J y t).elim (λh=>by have:=W.out y h;omega) (λh=>by omega)⟩
   .exact⟨by omega,by omega,λt=>by have:=cx.out y t;omega⟩
  have cH:Hid (Kept (λj=>(Value.slice (some ⟨g,aE,none⟩) es.length cap).ownBlock=some j) E V):=(a8.mono fE).trans ab.kept iL;have dC:V.cell? ⟨o.heap.size,0,none⟩=some (.int .u8 4):=cR av.out rfl;have d0:V.cell? ⟨o.heap.size,1,none⟩=some (.slice (some ⟨g,aE,none⟩) es.length cap):=cR av.out rfl;have cZ:=aa V o.heap.size 1 _ _ av.out;change Hid _ at ab;clear be;go_wp2_with fail;have bv:Hid ((V.setCell ⟨o.heap.size,1,none⟩ (.slice (some ⟨y,0,none⟩) (es.length+1) ad)).heap[o.heap.size]? =some (.cells #[.int .u8 4,.slice (some ⟨y,0,none⟩) (es.length+1) ad] 209 (0,0))):=heap_setCell_same V o.heap.size 1 _ _ _ av.out;have bb:Hid (Kept (λj=>j=o.heap.size) V (V.setCell ⟨o.heap.size,1,none⟩ (.slice (some ⟨y,0,none⟩) (es.length+1) ad))):=Kept.setCell (S:=λj=>j=o.heap.size) V ⟨o.heap.size,1,none⟩ _ rfl;have ek:(V.setCell ⟨o.heap.size,1,none⟩ (.slice (some ⟨y,0,none⟩) (es.length+1) ad)).heap.size=V.heap.size:=by simp
  generalize (V.setCell ⟨o.heap.size,1,none⟩ (.slice (some ⟨y,0,none⟩) (es.length+1) ad))=P at*;have cb:Hid (P.ownsRow 0 109 5 (.slice (some ⟨y,0,none⟩) s.length ad) s.length (zj s)):=bb.owns ab.own (λj p ak=>by simp [Value.ownBlock] at p;omega);have cE:Hid (ql P (λj=>j=y) (some ⟨y,0,none⟩) s):=ql.of_own cb (λj p=>by simp [Value.ownBlock] at p;exact p.symm) (by omega)
  have b8:es.length+1<=ad/\ad<=9223372036854775807:=by
   rcases cb.2 with⟨G,aQ⟩|⟨eu,dI,d4,dr,_,ev,G,aQ,_⟩;.cases G
   .cases dr;unfold maxLen at aQ;omega
  have b2:Hid (Kept (λj=>(Value.slice (some ⟨g,aE,none⟩) es.length cap).ownBlock=some j\/j=o.heap.size) E P):=(cH.mono iL).trans bb (λ_ h=>.inl (.inr h))
  have co:Hid (Cw P L bd S H {D with reads:=D.reads+K+U} F):=cy.kept b2 (λj p t=>by
   have:=aT.out j p;rcases t with t|t;.have:=O.out j t;omega
   .omega) (λj p t=>by
   rcases J j p with G|G
   .have:=W.out j G;rcases t with t|t;.have:=O.out j t;omega
    .omega
   .rcases t with t|t;.have:=O.out j t;omega
    .omega)
  have cn:Hid (P.heap[w.heap.size+1]? =_):=(bb.block _ (by omega) (by omega)).trans ck.out
  have cq:Hid (Kept (λj=>j=bd\/T j) w P):=cO.trans b2 (λj p=>by
   rcases p with t|t;.have:=O.out j t;exact .inr (by omega)
   .exact .inr (by omega))
  have c3:P.cell? ⟨o.heap.size,0,none⟩=some (.int .u8 4):=cR bv.out rfl;have cJ:P.cell? ⟨o.heap.size,1,none⟩=some (.slice (some ⟨y,0,none⟩) (es.length+1) ad):=cR bv.out rfl;have dv:o.heap.size<P.heap.size:=by omega
  clear dC d0 cZ;go_region_held3 (λw'=>w'.cell? ⟨o.heap.size,0,none⟩=some (.int .u8 4)/\w'.cell? ⟨o.heap.size,1,none⟩=some (.slice (some ⟨y,0,none⟩) (es.length+1) ad)) (go_keep) ((go_at_call 129;refine(vo _ 4 (by decide)).mono ?_;rintro r dx ⟨rfl,bO⟩;rw [bO];clear bO dx));have c4:room 4=6:=rfl;have aI:Hid (Kept (λ_=>False) P P.drew):=Kept.drew _ P;have eo:P.drew.heap.size=P.heap.size:=rfl;generalize P.drew=aA at*;have bP:Hid (ql aA (λj=>j=y) (some ⟨y,0,none⟩) s):=cE.kept aI nF;have bC:Hid (Cw aA L bd S H {D with reads:=D.reads+K+U} F):=co.kept0 aI.out;have bl:Hid (aA.heap[w.heap.size+1]? =_):=(aI.block _ (by omega) id).trans cn.out;have d6:Hid (aA.heap[o.heap.size]? =_):=(aI.block _ (by omega) id).trans bv.out;have aD:Hid (Kept (λj=>j=bd\/T j) w aA):=cq.trans aI fE;have cz:Hid (∀j,j=y->¬H j):=λj p dy=>cG.2.2 (by rw [<-p];exact dy);have db:Hid (∀j,j=y->j≠bd):=λj p ak=>by omega
  clear c3 cJ;by_cases eg:es.length+1<=6
  .have ar:(false,qI,F.put B (zo (zc 4 s)),ag)=(f,v,bu,bI):=by
    have:=a7.out;unfold Ck.more at this;rw [aB (by omega)] at this;exact this
   clear a7;cases ar;have dm:(es.length:Int)+1<=((room 4:Nat):Int):=by rw [c4];omega
   go_wp2_with fail;refine(v8 aA L bd S H _ F bC (λj=>j=y) (some ⟨y,0,none⟩) ad 4 (.inl rfl) s bP bi (by omega) B (by omega) (es.length+1) a9).mono ?_;rintro r x ⟨rfl,⟨bE,aK,aL⟩,al⟩;have a3:Hid _:=aK;have aR:Hid _:=aL;have bA:Hid (Kept H aA x):=al;have q:Hid (x.heap[w.heap.size+1]? =_):=(al.block _ (by omega) (λt=>(J _ t).elim (λh=>by have:=W.out _ h;omega) (λh=>by omega))).trans bl.out;have q0:x.cell? ⟨w.heap.size+1,0,none⟩=some (.string ⟨#[]⟩):=cR q.out rfl;have dZ:x.cell? ⟨w.heap.size+1,1,none⟩=some (.int .i64 0):=cR q.out rfl;have dB:x.cell? ⟨w.heap.size+1,2,none⟩=some (.bool false):=cR q.out rfl;have dP:x.cell? ⟨w.heap.size+1,3,none⟩=some (.int .i64 0):=cR q.out rfl;have dN:x.cell? ⟨w.heap.size+1,4,none⟩=some (.int .i64 0):=cR q.out rfl;have dY:=aa x (w.heap.size+1) 0 _ _ q.out;have dK:=aa x (w.heap.size+1) 1 _ _ q.out;have dQ:=aa x (w.heap.size+1) 2 _ _ q.out;have dw:=aa x (w.heap.size+1) 3 _ _ q.out;have dR:=aa x (w.heap.size+1) 4 _ _ q.out;clear aK aL al;go_wp2;have cD:Hid (Cw x L bd S bE {D with reads:=D.reads+(K+U)} (F.put B (zo (zc 4 s)))):=by have:=a3.out;rw [eG] at this;exact this
   obtain⟨cu,bt⟩:=vK x (w.heap.size+1) 109 _ _ _ _ _ (.string ⟨#[]⟩) (.int .i64 0) (.bool false) (.int .i64 0) (.int .i64 0) q.out;refine bodyPost_ret (v:=.tuple #[.agg qI.toArray,.bool false]) (qW Tryz.results137 _ _ (w.heap.size+1) 109 _ (0,0) _ rfl cu Tryz.underlying109 rfl (by kernel_rfl)) rfl ⟨rfl,⟨K+U,bE,by omega,by omega,cD.kept bt (λj p ak=>by have:=aT.out j p;omega) (λj p ak=>?_),λj p=>(aR j p).elim (λh=>(J j h).imp id (λh=>by omega)) (λh=>.inr (by have:=aD.size;omega))⟩,?_⟩
   .rcases aR j p with G|G
    .rcases J j G with aQ|aQ;.have:=W.out j aQ;omega
     .omega
    .omega
   .exact(aD.trans bA (λj p=>(J j p).elim (λh=>.inl (.inr h)) (λh=>.inr (by omega)))).trans bt (λj p=>.inr (by omega))
  .have ar:(true,qE ⟨(s.getD (s.length/2) dh).pl,false,0,(F.split D.bs.length ag B 4 s).1⟩,(F.split D.bs.length ag B 4 s).2.1,(F.split D.bs.length ag B 4 s).2.2)=(f,v,bu,bI):=by
    have:=a7.out;unfold Ck.more at this;rw [az (by omega)] at this;exact this
   clear a7;cases ar;have cA:Hid (qP (F.look {D with reads:=D.reads+K+U} 2) ag):=by show qP _ _;rw [zH];exact dd.out
   go_wp2_with fail;refine(KZ aA L bd S H _ F bC ag cA (by show 0<=D.reads+K+U;omega) (by show D.reads+K+U<=_;omega) (λj=>j=y) cz db (some ⟨y,0,none⟩) ad 4 (.inl rfl) s bP bi (es.length+1) a9 (by omega) (by omega) b8.1 b8.2 B (by omega)).mono ?_;rintro r x ⟨rfl,⟨cf,bE,d1,dt,aK,aL⟩,al⟩;have a3:Hid _:=aK;have aR:Hid _:=aL;have bA:Hid (Kept (λj=>j=bd\/H j) aA x):=al;have q:Hid (x.heap[w.heap.size+1]? =_):=(al.block _ (by omega) (λt=>t.elim (λh=>by omega) (λt=>(J _ t).elim (λh=>by have:=W.out _ h;omega) (λh=>by omega)))).trans bl.out;have q0:x.cell? ⟨w.heap.size+1,0,none⟩=some (.string ⟨#[]⟩):=cR q.out rfl;have dZ:x.cell? ⟨w.heap.size+1,1,none⟩=some (.int .i64 0):=cR q.out rfl;have dB:x.cell? ⟨w.heap.size+1,2,none⟩=some (.bool false):=cR q.out rfl;have dP:x.cell? ⟨w.heap.size+1,3,none⟩=some (.int .i64 0):=cR q.out rfl;have dN:x.cell? ⟨w.heap.size+1,4,none⟩=some (.int .i64 0):=cR q.out rfl;have dY:=aa x (w.heap.size+1) 0 _ _ q.out;have dK:=aa x (w.heap.size+1) 1 _ _ q.out;have dQ:=aa x (w.heap.size+1) 2 _ _ q.out;have dw:=aa x (w.heap.size+1) 3 _ _ q.out;have dR:=aa x (w.heap.size+1) 4 _ _ q.out;clear aK aL al;generalize bU:(s.getD (s.length/2) dh).pl=bJ at*;generalize cc:F.split D.bs.length ag B 4 s=dH at*;obtain⟨cs,dk,dz⟩:=dH;dsimp only at a3 ⊢;have cM:Hid ((s.getD (s.length/2) dh).pl=bJ):=bU;have bQ:Hid (F.split D.bs.length ag B 4 s=(cs,dk,dz)):=cc;clear bU cc;unfold qE;go_wp2;obtain⟨cu,bt⟩:=vK x (w.heap.size+1) 109 _ _ _ _ _ (.string bJ.key) (.int .i64 bJ.num) (.bool false) (.int .i64 0) (.int .i64 (cs:Int)) q.out;refine bodyPost_ret (v:=.tuple #[.agg (qE ⟨bJ,false,0,cs⟩).toArray,.bool true]) (qW Tryz.results137 _ _ (w.heap.size+1) 109 _ (0,0) _ rfl cu Tryz.underlying109 rfl (by kernel_rfl)) rfl ⟨by rw [cM.out,bQ.out],⟨K+U+cf,bE,by omega,by omega,?_,λj p=>(aR j p).elim (λh=>(J j h).imp id (λh=>by omega)) (λh=>.inr (by have:=aD.size;omega))⟩,?_⟩
   .have:=a3.kept bt (λj p ak=>by have:=aT.out j p;omega) (λj p ak=>by
     rcases aR j p with G|G
     .rcases J j G with aQ|aQ;.have:=W.out j aQ;omega
      .omega
     .omega)
    have c2:D.reads+K+U+cf=D.reads+(K+U+cf):=by omega
    rw [c2] at this;rw [bQ.out];exact this
   .exact(aD.trans bA (λj p=>p.elim (λh=>.inl (.inl h)) (λh=>(J j h).elim (λh=>.inl (.inr h)) (λh=>.inr (by omega))))).trans bt (λj p=>.inr (by omega))
end prog
namespace prog
open ref
variable {h b ta:Nat}{es:List En}{e:En}{q0 q:Pl}{nb:List Nat}
structure cH {h:Nat} (t:Tr h) (e:En) (t':Tr h):Prop where
 blk:t'.blk=t.blk
 good:t'.Good
 lo:t.items.length<=t'.items.length
 hi:t'.items.length<=6
 ents:t'.ents=yP e t.ents
 first:∀p,t.First p->t'.First p
structure dR {h:Nat} (t:Tr h) (e:En) (t' u:Tr h) (q:Pl):Prop where
 blk:t'.blk=t.blk
 good:t'.Good
 goodu:u.Good
 lo:3<=t'.items.length
 hi:t'.items.length<=6
 lou:3<=u.items.length
 hiu:u.items.length<=6
 ents:t'.ents++u.ents=yP e t.ents
 first:∀p,t.First p->t'.First p
 firstu:u.First q
 qok:q.Ok
 left:∀x∈t'.ents,x.pl.lt q=true
 right:∀x∈u.ents,¬x.pl.lt q=true
theorem zA(b:Nat)(a:List (Pl×Tr h)):(Tr.items (h:=h+1) (b,a)).length=a.length:=xf (h:=h) (b,a)
theorem Gv(g:Tr.Good (h:=0) (b,es))(c:e.Ok)(d:(yP e es).length<=6):cH (h:=0) (b,es) e (b,yP e es) where
 blk:=rfl
 good:=⟨g.1,λf a=>by
  rcases vp.1 a with rfl|a;.exact c
  .exact g.2 f a⟩
 lo:=by show es.length<=(yP e es).length;rw [(vr e es).length_eq];simp
 hi:=d
 ents:=rfl
 first:=λ_ h=>h
theorem K0(g:∀b∈es,b.Ok)(c:e.Ok):∀b∈yP e es,b.Ok:=λb a=>by
 rcases vp.1 a with rfl|a;.exact c
 .exact g b a
theorem Xk(e:En)(es:List En):(yP e es).length=es.length+1:=by rw [(vr e es).length_eq];simp
theorem Gw{l:List En}(g:Tr.Good (h:=0) (b,es))(u:e.Ok)(n:ta<65536)(q:xi es)(s:∀d∈es,d.pl≠e.pl)(i:yP e es=l)(t:es.length=6)(v:En):
 dR (h:=0) (b,es) e (b,l.take (l.length/2)) (ta,l.drop (l.length/2)) (l.getD (l.length/2) v).pl:=by
 have c:=K0 g.2 u;have f:=q.ins s;have j:l.length=7:=by rw [<-i,Xk,t]
 rw [i] at c f;rw [j];have p:l=l.take 3++l[3]::l.drop 4:=by rw [<-aL,aA]
 have r:l.getD (7/2) v=l[3]:=by rw [aE,aI (by omega)];rfl
 have m:xi (l.take 3++l[3]::l.drop 4):=by rw [<-p];exact f
 have k:=ep.1 m;have o:l.drop (7/2)=l[3]::l.drop 4:=aL (by omega);rw [r];refine⟨rfl,⟨g.1,λd a=>c d (aJ a)⟩,⟨n,λd a=>c d (eJ a)⟩,?_,?_,?_,?_,?_,λ_ h=>h,True.intro,(c _ (ag (by omega))).pl,?_,?_⟩;.show 3<=(l.take (7/2)).length;simp;omega
 .show (l.take (7/2)).length<=6;simp;omega
 .show 3<=(l.drop (7/2)).length;simp;omega
 .show (l.drop (7/2)).length<=6;simp;omega
 .show l.take (7/2)++l.drop (7/2)=yP e es;rw [aA,i]
 .intro d a;exact k.2.2 d a _ (am ..)
 .intro d a;have a:=a;rw [o] at a;rcases aq.1 a with rfl|a;.exact Pl.irrefl _
  .exact Pl.asymm ((aR.1 k.2.1).1 d a)
theorem Kids.route{A B:List (Pl×Tr h)}{tc:Tr h}(k:Kids (A++(q0,tc)::B))(p:¬e.pl.lt q0=true)(r:∀b∈B,e.pl.lt b.1=true):
 yP e (zM (A++(q0,tc)::B))=zM A++(yP e tc.ents++zM B):=by
 obtain⟨v,t,n,w,u,s,i⟩:=k.mid;rw [zC,zp];refine Ga (λg a=>Pl.lt_of_lt_not (n g a) p) (λg a=>?_);obtain⟨l,j,d⟩:=ii.1 a;obtain⟨c,f,rfl⟩:=av.1 j;have q:=i c f g d;have m:=r c f
 cases o:g.pl.lt e.pl with
 |false=>rfl
 |true=>exact absurd (Pl.trans o m) q
theorem j7{b':Nat}{A B B':List (Pl×Tr h)}{p:Pl}{tc tc':Tr h}(d:Tr.First (h:=h+1) (b,A++(q0,tc)::B) p):Tr.First (h:=h+1) (b',A++(q0,tc')::B') p:=by
 obtain⟨u,r,c⟩:=d;simp only at c
 cases A with
 |nil=>
  simp only [aH,ee,eK] at c;exact⟨tc',B',by simp [c.1.1]⟩
 |cons a A=>
  simp only [a9,ee] at c;exact⟨u,A++(q0,tc')::B',by simp [c.1]⟩
theorem JR{A B:List (Pl×Tr h)}{tc tc':Tr h}(g:Tr.Good (h:=h+1) (b,A++(q0,tc)::B))(s:(A++(q0,tc)::B).length<=6)(n:¬e.pl.lt q0=true)(o:∀b∈B,e.pl.lt b.1=true)(k:cH tc e tc'):
 cH (h:=h+1) (b,A++(q0,tc)::B) e (b,A++(q0,tc')::B):=by
 have l:=g.kids;obtain⟨y,w,x,u,t,r,v⟩:=l.mid;have f:=g.full;simp only at f;have m:∀i∈tc'.ents,i=e\/i∈tc.ents:=λi a=>by rw [k.ents] at a;exact vp.1 a
 refine⟨rfl,?_,?_,?_,?_,λp q=>j7 q⟩
 .refine Kids.node (l.swap k.good k.hi (k.first _ t) (λi a=>?_) (λb' j i a=>?_)) (λc d=>?_) g.1
  .rcases m i a with rfl|a;.exact n
   .exact u i (by rw [zp];exact ac _ a)
  .rcases m i a with rfl|a;.exact o b' j
   .exact r b' j i (af _ a)
  .rcases aj.1 d with d|d;.exact f c (ac _ d)
   .rcases aq.1 d with rfl|d;.exact aF (f (q0,tc) (by simp)) k.lo
    .exact f c (by simp [d])
 .refine aF (eV (zA _ _)) (aF ?_ (eV (zA _ _).symm));simp
 .exact aF (eV (zA _ _)) (by simpa using s)
 .show zM (A++(q0,tc')::B)=yP e (zM (A++(q0,tc)::B));rw [l.route n o,zC,zp,k.ents]
theorem Xl{A B:List (Pl×Tr h)}{tc tc' uc:Tr h}(g:Tr.Good (h:=h+1) (b,A++(q0,tc)::B))(s:¬e.pl.lt q0=true)(t:∀b∈B,e.pl.lt b.1=true)(k:dR tc e tc' uc q):
 Kids (A++(q0,tc')::(q,uc)::B)/\(∀c∈A++(q0,tc')::(q,uc)::B,3<=c.2.items.length)/\zM (A++(q0,tc')::(q,uc)::B)=yP e (zM (A++(q0,tc)::B)):=by
 have n:=g.kids;obtain⟨E,C,D,w,v,u,y⟩:=n.mid;have j:=g.full;simp only at j
 have r:∀d,d∈tc'.ents\/d∈uc.ents->d=e\/d∈tc.ents:=λd a=>by refine vp.1 (k.ents▸ ?_);exact aj.2 a
 have l:∀d,d∈tc'.ents\/d∈uc.ents->¬d.pl.lt q0=true:=λd a=>by
  rcases r d a with rfl|a;.exact s
  .exact w d (by rw [zp];exact ac _ a)
 have m:∀b∈B,∀d,d∈tc'.ents\/d∈uc.ents->d.pl.lt b.1=true:=λb' f d a=>by
  rcases r d a with rfl|a;.exact t b' f
  .exact u b' f d (af _ a)
 obtain⟨d,a⟩:=k.good.some_ent (by have:=k.lo;omega);obtain⟨x,p⟩:=k.goodu.some_ent (by have:=k.lou;omega);refine⟨n.parted k.good k.goodu k.hi k.hiu k.qok (k.first _ v) k.firstu (Pl.lt_of_not (l d (.inl a)) (k.left d a)) k.left k.right (λz o=>l z (.inl o)) (λb' f z o=>m b' f z (.inr o)) (λb' f=>Pl.lt_of_not (k.right x p) (m b' f x (.inr p))),λc i=>?_,?_⟩
 .rcases aj.1 i with i|i;.exact j c (ac _ i)
  .rcases aq.1 i with rfl|i;.exact k.lo
   .rcases aq.1 i with rfl|i;.exact k.lou
    .exact j c (by simp [i])
 .rw [n.route s t,zC,zp,zp,<-k.ents];simp
theorem JS{A B:List (Pl×Tr h)}{tc tc' uc:Tr h}(g:Tr.Good (h:=h+1) (b,A++(q0,tc)::B))(d:(A++(q0,tc)::B).length+1<=6)(c:¬e.pl.lt q0=true)(j:∀b∈B,e.pl.lt b.1=true)(k:dR tc e tc' uc q):
 cH (h:=h+1) (b,A++(q0,tc)::B) e (b,A++(q0,tc')::(q,uc)::B):=by
 obtain⟨i,f,l⟩:=Xl g c j k;refine⟨rfl,i.node f g.1,?_,?_,l,λp a=>j7 a⟩;.refine aF (eV (zA _ _)) (aF ?_ (eV (zA _ _).symm));simp
 .exact aF (eV (zA _ _)) (by simp at d ⊢;omega)
theorem JT{A B:List (Pl×Tr h)}{tc tc' uc:Tr h}(g:Tr.Good (h:=h+1) (b,A++(q0,tc)::B))(H:(A++(q0,tc)::B).length=6)(y:ta<65536)(E:¬e.pl.lt q0=true)(L:∀b∈B,e.pl.lt b.1=true)(k:dR tc e tc' uc q)
 (a:List (Pl×Tr h)) (i:A++(q0,tc')::(q,uc)::B=a) (f:Pl) (n:(a.map Prod.fst)[3]? =some f):
 dR (h:=h+1) (b,A++(q0,tc)::B) e (b,a.take 3) (ta,a.drop 3) f:=by
 obtain⟨w,o,x⟩:=Xl g E L k;have F:a.length=7:=by rw [<-i];simp at H ⊢;omega
 have j:∀p,Tr.First (h:=h+1) (b,A++(q0,tc)::B) p->Tr.First (h:=h+1) (b,a.take 3) p:=λp G=>by obtain⟨u,r,s⟩:=j7 (b':=b) (B':=(q,uc)::B) (tc':=tc') G;simp only at s;rw [i] at s;exact⟨u,r.take 2,by simp only;rw [s,iB]⟩
 rw [i] at w o x;have l:a.drop 3=a[3]::a.drop 4:=aL (by omega);have z:a=a.take 3++a[3]::a.drop 4:=by rw [<-l,aA]
 have d:a[3]=(f,a[3].2):=by
  have:a[3].1=f:=by rw [mp,aI (by omega)] at n;simpa using n
  rw [<-this]
 have m:Kids (a.take 3++(f,a[3].2)::a.drop 4):=by rw [<-d,<-z];exact w
 obtain⟨Q,N,C,J,P,M,O⟩:=m.mid;have K:=m.left;have I:Kids (a.drop 3):=by rw [l,d];exact m.right
 refine⟨rfl,K.node (λc v=>o c (aJ v)) g.1,I.node (λc v=>o c (eJ v)) y,?_,?_,?_,?_,?_,j,?_,?_,?_,?_⟩;.refine aF ?_ (eV (zA _ _).symm);simp;omega
 .refine aF (eV (zA _ _)) ?_;simp;omega
 .refine aF ?_ (eV (zA _ _).symm);simp;omega
 .refine aF (eV (zA _ _)) ?_;simp;omega
 .show zM (a.take 3)++zM (a.drop 3)=yP e (zM (A++(q0,tc)::B));rw [<-zC,aA,x]
 .exact⟨a[3].2,a.drop 4,by simp only;rw [l];exact et (· ::a.drop 4) d⟩
 .exact(m.right.good (f,a[3].2) (am ..)).2.2
 .intro D t;exact C D t
 .intro D t;refine J D ?_;rw [<-d,<-l];exact t
def Tr.LayV{β:Type}(pg:Pg->β)(rd:Nat->β):{h:Nat}->Tr h->Prop
 |0,t=>rd t.1=pg (zc 5 t.2)
 |h+1,t=>rd t.1=pg (zc 4 (Tr.items (h:=h+1) t))/\∀c∈t.2,Tr.LayV pg rd (h:=h) c.2
theorem Tr.LayV.node{β:Type}{pg:Pg->β}{rd:Nat->β}:{h:Nat}->{t:Tr h}->t.LayV pg rd->rd t.blk=pg (zc (zS h) t.items)
 |0,_,l=>l
 |_+1,_,l=>l.1
theorem zY{a:List (Pl×Tr h)}{c:Pl×Tr h}{j:Nat}(d:c∈a)(b:j∈c.2.blocks):j∈zF a:=ii.2 ⟨_,av.2 ⟨c,d,rfl⟩,b⟩
theorem Gx{b:List (Pl×Tr h)}{f:En}(a:f∈zM b):∃c∈b,f∈c.2.ents:=by
 obtain⟨l,d,a⟩:=ii.1 a;obtain⟨c,e,rfl⟩:=av.1 d;exact⟨c,e,a⟩
theorem uK{a:List (Pl×Tr h)}{c:Pl×Tr h}{e:En}(d:c∈a)(b:e∈c.2.ents):e∈zM a:=ii.2 ⟨_,av.2 ⟨c,d,rfl⟩,b⟩
theorem Tr.LayV.congr{β:Type}{pg:Pg->β}{rd a:Nat->β}:∀{h:Nat} {t:Tr h},t.LayV pg rd->(∀j∈t.blocks,a j=rd j)->t.LayV pg a
 |0,t,l,h=>(h t.1 (aD.2 rfl)).trans l
 |h+1,t,l,he=>⟨(he t.1 (am ..)).trans l.1,λc b=>(l.2 c b).congr (λj d=>he j (al _ (zY b d)))⟩
theorem fl{A B:List (Pl×Tr h)}{tc tc':Tr h}(a:tc'.blocks.Perm (tc.blocks++nb)):
 (Tr.blocks (h:=h+1) (b,A++(q0,tc')::B)).Perm (Tr.blocks (h:=h+1) (b,A++(q0,tc)::B)++nb):=by
 show (b::zF (A++(q0,tc')::B)).Perm (b::zF (A++(q0,tc)::B)++nb);rw [qz,qM,qz,qM];simp only [a9,an];refine List.Perm.cons b (ln _ ?_);refine(a.append_right _).trans ?_;rw [an];exact ln _ eZ
theorem kR{A B:List (Pl×Tr h)}{tc tc' uc:Tr h}(a:(tc'.blocks++uc.blocks).Perm (tc.blocks++nb)):
 (b::zF (A++(q0,tc')::(q,uc)::B)).Perm (Tr.blocks (h:=h+1) (b,A++(q0,tc)::B)++nb):=by
 show (b::zF (A++(q0,tc')::(q,uc)::B)).Perm (b::zF (A++(q0,tc)::B)++nb);rw [qz,qM,qM,qz,qM];simp only [a9,an];refine List.Perm.cons b (ln _ ?_);rw [<-an];refine(a.append_right _).trans ?_;rw [an];exact ln _ eZ
theorem fm{t:Tr (h+1)}{a:List (Pl×Tr h)}(c:(b::zF a).Perm (t.blocks++nb))(i:Nat):
 (Tr.blocks (h:=h+1) (b,a.take i)++Tr.blocks (h:=h+1) (ta,a.drop i)).Perm (t.blocks++(nb++[ta])):=by
 show (b::zF (a.take i)++ta::zF (a.drop i)).Perm _;have e:zF a=zF (a.take i)++zF (a.drop i):=by rw [<-qz,aA]
 refine List.perm_middle.trans ?_;rw [a9,<-e,<-an];exact(c.cons ta).trans (eZ (l₁:=[ta]))
theorem gK:∀(a:List (Pl×Tr h)),(∀c∈a,2*c.2.blocks.length+1<=c.2.ents.length)->2*(zF a).length+a.length<=(zM a).length
 |[],_=>by simp [zF,zM]
 |c::a,hc=>by have d:=hc c (am ..);have f:=gK a (λe b=>hc e (al _ b));rw [qM,zp,ah,ah,ae];omega
theorem cI(k:Nat):∀(a:List (Pl×Tr h)),(∀c∈a,k<=2*c.2.blocks.length+1)->a.length*k<=2*(zF a).length+a.length
 |[],_=>by simp
 |c::a,hc=>by have d:=hc c (am ..);have f:=cI k a (λe b=>hc e (al _ b));rw [qM,ah,ae,eS];omega
theorem Tr.Good.few:∀{h:Nat} {t:Tr h},t.Good->3<=t.items.length->2*t.blocks.length+1<=t.ents.length
 |0,t,_,hl=>hl
 |h+1,t,g,hl=>by have:=gK t.2 (λc a=>(g.kids.good c a).1.few (g.full c a));rw [xf] at hl;rw [Tr.blocks_succ,Tr.ents_succ,ae];omega
theorem Tr.Good.many:∀{h:Nat} {t:Tr h},t.Good->3<=t.items.length->3^(h+1)<=2*t.blocks.length+1
 |0,t,_,hl=>by show 3<=2*1+1;omega
 |h+1,t,g,hl=>by
  have:=cI (3^(h+1)) t.2 (λc a=>(g.kids.good c a).1.many (g.full c a));rw [xf] at hl;rw [Tr.blocks_succ,ae,me,Nat.mul_comm]
  have d:3*3^(h+1)-3<=t.2.length*3^(h+1)-t.2.length:=by rw [<-mC,<-mC];exact eH _ hl
  have b:t.2.length<=t.2.length*3^(h+1):=i5 _ (nh (by omega));have e:3<=3*3^(h+1):=i5 _ (nh (by omega));omega
def yz:Pl:=⟨⟨#[]⟩,0⟩
structure Tr.Root {h:Nat} (t:Tr h):Prop where
 good:t.Good
 hi:t.items.length<=6
 one:1<=t.items.length
 two:0<h->2<=t.items.length
 first:t.First yz
 srt:xi t.ents
theorem Tr.Root.few:∀{h:Nat} {t:Tr h},t.Root->2*t.blocks.length<=t.ents.length+1
 |0,t,r=>by have:=r.one;show 2*1<=t.2.length+1;have d:t.2.length=t.items.length:=rfl;omega
 |h+1,t,r=>by have:=gK t.2 (λc a=>(r.good.kids.good c a).1.few (r.good.full c a));have b:=r.two (by omega);rw [xf] at b;rw [Tr.blocks_succ,Tr.ents_succ,ae];omega
theorem Tr.Root.many:∀{h:Nat} {t:Tr h},t.Root->3^h<=t.blocks.length
 |0,t,r=>by show 1<=1;omega
 |h+1,t,r=>by
  have:=cI (3^(h+1)) t.2 (λc a=>(r.good.kids.good c a).1.many (r.good.full c a));have b:=r.two (by omega);rw [xf] at b;rw [Tr.blocks_succ,ae]
  have e:2*3^(h+1)-2<=t.2.length*3^(h+1)-t.2.length:=by rw [<-mC,<-mC];exact eH _ b
  have d:t.2.length<=t.2.length*3^(h+1):=i5 _ (nh (by omega));have f:2<=2*3^(h+1):=i5 _ (nh (by omega));omega
theorem Tr.Root.low{t:Tr h}(r:t.Root)(b:t.blocks.length<=979):h<=6:=by
 have:=r.many;by_cases a:h<=6;.exact a
 .have:3^7<=3^h:=lr (by omega) (by omega);omega
theorem DU(h:Nat):h+1<=3^h:=by
 induction h with
 |zero=>decide
 |succ h a=>rw [me];omega
end prog
namespace disk
open Go.ChangeShapes Go.WideShapes Go.ChangeAt Go.RowKit
attribute [local go_sem ↓] Go.wp_at_zero Go.wp_at_succ
theorem kt(w:World)(bd:Nat)(S:Nat->Prop)(D:Dk)(p u:Option Addr)(j r:Nat)(h:zn w bd S D p u j r)(G:zs D.fuse)(L:(D.fuse==0)=false):
 Calls Tryz.prog 40 #[.pointer (some ⟨bd,0,none⟩)] w λe w'=>
  e=.returned (.bool true)/\(∃S',ze w' bd S' {D with bs:=zk D.bs D.ps,ps:=[],fuse:=qG D.fuse}/\∀k,S' k->S k)/\Kept S w w':=by
 obtain⟨s,A,ac⟩:∃s:List Value,s=yN/\∀w,(zeroValue 133).run Tryz.prog w=.ok (.agg s.toArray) w:=⟨yN,rfl,qa Tryz.infoWrite⟩;have I:Hid (s.length=129):=by rw [A];exact et (· +1) zI.1
 clear A;have ah:=h.len;have l:Hid _:=h;have v:Hid _:=qc Tryz.infoWrite;clear h;go_enter Tryz.func40,Tryz.ntmps40;go_wp2_with (go_at_call 65;refine(g9 _ bd S D p u j r l.out G).mono ?_;rintro e M ⟨rfl,o,x⟩;have y:=o.c1;change Hid _ at o x);have J:Hid (kq w M bd S {D with fuse:=qG D.fuse} p u j r):=⟨o.out,x.mono (λk F=>by rw [F];exact o.bdS)⟩;clear y;go_loopw [13] (λt wr=>∃k:Nat,k<=D.ps.length/\t=.int .i64 k/\kq w wr bd S {D with bs:=zk D.bs (D.ps.take k),fuse:=qG D.fuse} p u j r) (λt _=>D.ps.length-(intOf t).toNat)
 case atStart=>exact⟨0,ai _,rfl,J.out⟩
 case round=>
  obtain⟨k,F,rfl,a⟩:=hrel;change Hid _ at a;by_cases f:k<D.ps.length
  .obtain⟨N,rfl⟩:=l.prow (by omega);have n:Hid (D.ps[k].1<D.bs.length):=(l.ok.ps _ (ag f)).1;obtain⟨g,rfl⟩:=l.row (by have:=n.out;omega);have T:Hid _:=a.disk.prange k f;have d:Hid (zW D.ps[k].2):=(l.ok.ps _ (ag f)).2;have K:Hid _:=Xe D.bs D.ps k f;generalize O:D.ps[k]=q at*;obtain⟨b,c⟩:=q;clear O;have B:Hid (kq w (wr.alloc (.cells (.int .i64 (b:Int)::c).toArray 133)) bd S {D with bs:=zk D.bs (D.ps.take k),fuse:=qG D.fuse} (some ⟨g,0,none⟩) (some ⟨N,0,none⟩) j r):=a.alloc _;have m:(zk D.bs (D.ps.take k)).length=D.bs.length:=zB _ _;have Z:(wr.alloc (.cells (.int .i64 (b:Int)::c).toArray 133)).cell? ⟨bd,0,none⟩=some (.slice (some ⟨g,0,none⟩) D.bs.length j):=by rw [<-m];exact B.disk.c0
   have ab:=B.disk.bthere b (by show b<(zk D.bs (D.ps.take k)).length;rw [m];exact n.out);have R:bd≠g:=λe=>l.ap1 (by rw [<-e];rfl);have ak:=a.disk.lt g ((a.disk.own g).2 (.inr (.inl rfl)));have X:=a.disk.lt bd a.disk.bdS;have Q:wr.heap.size≠g:=by omega
   change Hid _ at m;have U:(k:Int)<(D.ps.length:Int):=by omega
   have ad:(0:Int)<=(b:Int):=by omega
   have W:(b:Int)<(D.bs.length:Int):=by have:=n.out;simp only at this;omega
   have aa:(wr.alloc (.cells (.int .i64 (b:Int)::c).toArray 133)).cell? ⟨wr.heap.size,0,none⟩=some (.int .i64 (b:Int)):=by simp
   have Y:(wr.alloc (.cells (.int .i64 (b:Int)::c).toArray 133)).rangeAt wr.heap.size 1 c:=yn (heap_alloc_new wr _);have al:=Tryz.underlying131;have z:=d.1;have H:=d.2;have af:(Tryz.prog.info? 131).map (·.size)=some c.length:=by rw [z];exact qc Tryz.infoBlock
   go_wp2_with (first
    |(refine wpList_load_mid rfl 133 (.tmp 15) rfl _ _ rfl (.int .i64 (b:Int)::c) _ T.out Tryz.underlying133 rfl (by rw [ae,d.1];exact v.out) ?_)
    |(refine zi rfl 133 (.tmp 4) (.tmp 16) rfl _ _ (.int .i64 (b:Int)::c) rfl rfl rfl (by rw [ae,d.1];exact v.out) (by rw [ae,d.1];simpa using I.out) (aZ.2 ⟨rfl,d.2⟩) ?_))
   generalize (wr.alloc (.cells (.int .i64 (b:Int)::c).toArray 133))=am at*
   go_region_held3 (λw'=>w'.cell? ⟨bd,0,none⟩=some (.slice (some ⟨g,0,none⟩) D.bs.length j)/\w'.cell? ⟨wr.heap.size,0,none⟩=some (.int .i64 (b:Int))/\w'.rangeAt wr.heap.size 1 c/\w'.there g (b*128) 128)
    ((go_split_ands;simp only [World.rangeAt_drew,World.there_drew,World.cell?_drew] at *; refine⟨?_,?_,?_,?_⟩<;>first|assumption|(rw [World.cell?_setCells_out _ _ _ _ _ (by intro P _;simp at P;omega)];assumption)|(refine World.rangeAt_setCells_apart (by assumption) _ _ _ (by omega))|(apply World.there_setCells;assumption)))
    (fail)
   go_wp2;go_roundw
   case rel=>exact⟨k+1,by omega,by go_num,by rw [K.out];exact B.drew.setb b (by show b<(zk D.bs (D.ps.take k)).length;rw [m.out];exact n.out) c ⟨z,H⟩⟩
   case measure=>simp [intOf];omega
  .have V:¬(k:Int)<(D.ps.length:Int):=by omega
   have y:=a.disk.c1;have aj:=a.disk.fz 1;go_wp2;go_ret;have E:=a.disk.nopend;rw [show D.ps.take k=D.ps from ao (by omega)] at E;refine⟨rfl,⟨_,⟨p,none,j,0,E⟩,λi C=>?_⟩,a.kept.trans (Kept.setCell (S:=S) wr ⟨bd,1,none⟩ _ l.bdS) iL⟩;rcases C with rfl|C;.exact l.bdS
   .refine(a.disk.own i).2 (.inr (.inl ?_));rw [<-C];cases p<;>rfl
theorem JU(w:World)(bd:Nat)(S:Nat->Prop)(D:Dk)(j i:Option Addr)(l f:Nat)(h:zn w bd S D j i l f)(m:zs D.fuse)(b:(D.fuse==0)=true):
 Calls Tryz.prog 40 #[.pointer (some ⟨bd,0,none⟩)] w λe w'=>e=.returned (.bool false)/\ze w' bd S D/\Kept S w w':=by
 have g:D.fuse=0:=by simpa using b
 change Hid _ at h g;go_enter Tryz.func40,Tryz.ntmps40;go_wp2_with (go_at_call 65;refine(g9 _ bd S D j i l f h m).mono ?_;rintro e p ⟨rfl,a,c⟩;change Hid _ at a c);go_ret;refine⟨rfl,⟨j,i,l,f,?_⟩,c.mono (λk o=>by rw [o];exact a.bdS)⟩;have d:=a.out;rw [g.out] at d
 have n:({D with fuse:=qG 0}:Dk)=D:=by have:=g.out;cases D;simp only at this;subst this;rfl
 rw [n] at d;exact d
def Dk.flush(D:Dk):Dk:=if D.fuse=0 then D else {D with bs:=zk D.bs D.ps,ps:=[],fuse:=qG D.fuse}
theorem yS(w:World)(bd:Nat)(S:Nat->Prop)(D:Dk)(h:ze w bd S D)(b:zs D.fuse):
 Calls Tryz.prog 40 #[.pointer (some ⟨bd,0,none⟩)] w λe w'=>
  e=.returned (.bool (!(D.fuse==0)))/\(∃S',ze w' bd S' D.flush/\∀k,S' k->S k)/\Kept S w w':=by
 obtain⟨d,f,g,c,h⟩:=h;by_cases a:D.fuse=0
 .rw [show (D.fuse==0)=true by simpa using a,show D.flush=D from aB a];exact(JU w bd S D d f g c h b (by simpa using a)).mono λe w' ⟨m,i,j⟩=>⟨m,⟨S,i,λ_ l=>l⟩,j⟩
 .rw [show (D.fuse==0)=false by simpa using a,show D.flush={D with bs:=zk D.bs D.ps,ps:=[],fuse:=qG D.fuse} from az a];exact kt w bd S D d f g c h b (by simpa using a)
end disk
end Go.Proofs.YtcoengihaobddaaGreatDoor

/- Part 20 of 36 of a proof: Ins8, Tr3, Tr4 -/
import Derived.Test.YtcoengihaobddaaGreatDoorJc19
set_option maxHeartbeats 8000000
set_option linter.unusedVariables false
set_option linter.unusedSimpArgs false
set_option maxRecDepth 8000
namespace Go.Proofs.YtcoengihaobddaaGreatDoor
namespace prog
open Go.ChangeShapes Go.WideShapes Go.ChangeAt Go.RowKit disk ref
open keys (zh ze zy zs)
theorem Xy(w:World)(M bd:Nat)(S T:Nat->Prop)(D:Dk)(C:Ck)(h:Cw w M bd S T D C)(m:List UInt8)(dq:qF (C.look D 2) m)(cU:0<=D.reads)(dE:Nat)(ex:dE<=1000)(ek:D.reads<=4611686018427380000)(E:Nat)(de:E<65536)(es:List En)(aZ:∀e∈es,e.Ok)(c0:∀e∈es,e.mark=false/\e.size=0)(ct:es.length<=6)(c8:yO es)(da:C.look D E=zm (zc 4 es))(e:En)(dt:e.Ok)(d3:C.ws.length<700)(G:Ck)(aj:List UInt8)(au:qF (G.look D 2) aj)(dh:G.ws.length<700)(c:Nat)(t:zI es e.pl=c)(dg:c<es.length)(d:En)(bp:d.Ok)(bA:Below M bd S T D C es[c].at_ e dE true (qt d) G)(s:List En)(az:es.take (c+1)++d::es.drop (c+1)=s)(f:Bool)(v:List Value)(bv:Ck)(bJ:List UInt8)(b0:G.more D.bs.length aj E 4 s=(f,v,bv,bJ)):
 Calls Tryz.prog 137 #[.pointer (some ⟨M,0,none⟩),.int .i64 E,.agg (qt e).toArray] w λr w'=>r=.returned (.tuple #[.agg v.toArray,.bool f])/\(∃(n:Int) (db:Nat->Prop),0<=n/\n<=dE+2/\Cw w' M bd S db {D with reads:=D.reads+n} bv/\∀j,db j->T j\/w.heap.size<=j)/\za (λj=>j=bd\/T j) w w':=by
 have df:Hid (qF (G.look D 2) aj):=au;have ea:Hid d.Ok:=bp;have cY:Hid (es.take (c+1)++d::es.drop (c+1)=s):=az;have a7:Hid (G.more D.bs.length aj E 4 s=(f,v,bv,bJ)):=b0;have ba:s.length=es.length+1:=by rw [<-az];simp only [ag,aC,ae,aS];omega
 have bj:Hid (∀di∈s,di.Ok):=λdi aI=>by
  rw [<-az] at aI;rcases ah.1 aI with aI|aI;.exact aZ di (aP aI)
  .rcases ar.1 aI with rfl|aI;.exact bp
   .exact aZ di (eK aI)
 clear au bp az b0;have bC:Hid _:=h;have dj:Hid (∀e∈es,e.mark=false/\e.size=0):=c0;have c2:Hid (∀e∈es,e.Ok):=aZ;have cP:Hid (yO es):=c8;change Hid _ at dq bA da;clear h aZ c8 dt c0;have eg:bd<w.heap.size:=bC.disk.lt bd bC.disk.bdS;have W:Hid (∀j,T j->j<w.heap.size):=bC.chg.lt;have aU:Hid (∀j,S j->j<w.heap.size):=bC.disk.lt;have aT:Hid (za (λ_=>False) w ((w.alloc (.cells (qt e).toArray 109)).alloc (.cells qz.toArray 109))):=za.alloc2 _ _ _;have bh:Hid (((w.alloc (.cells (qt e).toArray 109)).alloc (.cells qz.toArray 109)).heap[w.heap.size+1]? =some (.cells qz.toArray 109 (0,0))):=eF w _ _;have bz:Hid (((w.alloc (.cells (qt e).toArray 109)).alloc (.cells qz.toArray 109)).heap[w.heap.size]? =some (.cells (qt e).toArray 109 (0,0))):=((za.alloc (λ_=>False) _ _).block w.heap.size (by simp) id).trans (ac w _);have b6:((w.alloc (.cells (qt e).toArray 109)).alloc (.cells qz.toArray 109)).heap.size=w.heap.size+2:=by simp
 unfold qz at aT bh bz b6;unfold qt at aT bh bz b6 ⊢;go_enter Tryz.func137,Tryz.ntmps137;go_wp2_with fail;change Hid (za _ w ((w.alloc (.cells #[.string e.pl.key,.int .i64 e.pl.num,.bool e.mark,.int .i64 (e.size:Int),.int .i64 (e.at_:Int)] 109)).alloc (.cells #[.string ⟨#[]⟩,.int .i64 0,.bool false,.int .i64 0,.int .i64 0] 109))) at aT;generalize ((w.alloc (.cells #[.string e.pl.key,.int .i64 e.pl.num,.bool e.mark,.int .i64 (e.size:Int),.int .i64 (e.at_:Int)] 109)).alloc (.cells #[.string ⟨#[]⟩,.int .i64 0,.bool false,.int .i64 0,.int .i64 0] 109))=ca at*;refine(yB ca M bd S T D C (bC.kept0 aT) cU (by omega) E de 4 es (.inl rfl) c2 (λ_=>dj) ct da).mono ?_;rintro r o ⟨a,u,rfl,⟨L,c9,cK,bk⟩,aM,ak,a5,bi⟩;have cW:Hid (za (λj=>j=bd) ca o):=aM;have bS:Hid (o.ownsRow 0 109 5 (.slice a es.length u) es.length (zj es)):=a5;have dV:=aM.size;have aX:Hid (o.heap[w.heap.size]? =_):=(aM.block _ (by omega) (by omega)).trans bz.out;have cn:Hid (o.heap[w.heap.size+1]? =_):=(aM.block _ (by omega) (by omega)).trans bh.out;change Hid _ at bk bi ak;clear aM a5;have dU:o.cell? ⟨w.heap.size,0,none⟩=some (.string e.pl.key):=cR aX.out rfl;have dB:o.cell? ⟨w.heap.size,1,none⟩=some (.int .i64 e.pl.num):=cR aX.out rfl;have dv:w.heap.size<o.heap.size:=by omega
 have bs:∀j,(Value.slice a es.length u).ownBlock=some j->ca.heap.size<=j/\j<o.heap.size:=λj p=>⟨bi j p,(bS.lt j p).2⟩;have O:Hid (∀j,(Value.slice a es.length u).ownBlock=some j->ca.heap.size<=j/\j<o.heap.size):=bs;clear bs;go_wp2_with fail;have b8:Hid (za (λ_=>False) o (o.alloc (.cells #[.int .u8 4,.slice a es.length u] 209))):=za.alloc _ _ _;have cT:Hid ((o.alloc (.cells #[.int .u8 4,.slice a es.length u] 209)).heap[o.heap.size]? =some (.cells #[.int .u8 4,.slice a es.length u] 209 (0,0))):=ac o _;have er:(o.alloc (.cells #[.int .u8 4,.slice a es.length u] 209)).heap.size=o.heap.size+1:=by simp
 generalize (o.alloc (.cells #[.int .u8 4,.slice a es.length u] 209))=dI at*;refine(jw dI _ a u es (ak.kept b8 nF) cP 4 e.pl).mono ?_;rintro r ai ⟨rfl,a0⟩;have a6:Hid (za (λ_=>False) o ai):=b8.trans a0 iL;have dL:=a0.size;have aY:Hid (ai.heap[o.heap.size]? =_):=(a0.block _ (by omega) id).trans cT.out;clear a0;have Z:Hid (ai.heap[w.heap.size]? =_):=(a6.block _ (by omega) id).trans aX.out;have ch:Hid (ai.heap[w.heap.size+1]? =_):=(a6.block _ (by omega) id).trans cn.out;have bI:ai.cell? ⟨w.heap.size,0,none⟩=some (.string e.pl.key):=cR Z.out rfl;have bL:ai.cell? ⟨w.heap.size,1,none⟩=some (.int .i64 e.pl.num):=cR Z.out rfl;have bG:ai.cell? ⟨w.heap.size,2,none⟩=some (.bool e.mark):=cR Z.out rfl;have bH:ai.cell? ⟨w.heap.size,3,none⟩=some (.int .i64 (e.size:Int)):=cR Z.out rfl;have bN:ai.cell? ⟨w.heap.size,4,none⟩=some (.int .i64 (e.at_:Int)):=cR Z.out rfl;have dF:ai.cell? ⟨o.heap.size,0,none⟩=some (.int .u8 4):=cR aY.out rfl;have bM:ai.cell? ⟨o.heap.size,1,none⟩=some (.slice a es.length u):=cR aY.out rfl;have cX:Hid (zI es e.pl=c):=t;generalize zt es e.pl=i at*;clear t;go_wp2_with fail;refine(vB ai _ a u es (ak.kept a6 nF) cP 4 e.pl).mono ?_;rintro r k ⟨rfl,av⟩;rw [cX.out];have aH:Hid (za (λ_=>False) o k):=a6.trans av iL;have dr:=av.size;have aV:Hid (k.heap[o.heap.size]? =_):=(av.block _ (by omega) id).trans aY.out;have Q:Hid (k.heap[w.heap.size]? =_):=(av.block _ (by omega) id).trans Z.out;have bn:Hid (k.heap[w.heap.size+1]? =_):=(av.block _ (by omega) id).trans ch.out;have bW:Hid (qg k (λb=>ca.heap.size<=b) a es):=ak.kept aH nF;have cH:Hid (k.ownsRow 0 109 5 (.slice a es.length u) es.length (zj es)):=aH.owns bS nF;have bq:Hid (Cw k.drew M bd S T {D with reads:=D.reads+L} C):=(bk.kept0 aH).kept0 (za.drew _ k);have br:Hid (za (λj=>j=bd\/T j) w k):=((aT.mono fE).trans cW (λ_ h=>.inl (.inl h))).trans aH fE;clear av bI bL bG bH bN dF bM dU dB;obtain⟨g,aE,rfl⟩:=bW.base (by omega);obtain⟨-, -, -, -, cq, -, d6⟩:=bW.cells c dg;have eo:ca.heap.size<=g/\g<o.heap.size:=O.out g rfl;have a4:Hid (∀cs:World,Cw cs M bd S T {D with reads:=D.reads+L} C->_):=λcs dc=>bA.go cs L c9 cK dc;generalize es[c].at_=ck at*;have bI:k.cell? ⟨w.heap.size,0,none⟩=some (.string e.pl.key):=cR Q.out rfl;have bL:k.cell? ⟨w.heap.size,1,none⟩=some (.int .i64 e.pl.num):=cR Q.out rfl;have bG:k.cell? ⟨w.heap.size,2,none⟩=some (.bool e.mark):=cR Q.out rfl;have bH:k.cell? ⟨w.heap.size,3,none⟩=some (.int .i64 (e.size:Int)):=cR Q.out rfl;have bN:k.cell? ⟨w.heap.size,4,none⟩=some (.int .i64 (e.at_:Int)):=cR Q.out rfl;have bM:k.cell? ⟨o.heap.size,1,none⟩=some (.slice (some ⟨g,aE,none⟩) es.length u):=cR aV.out rfl;have d4:(c:Int)<(es.length:Int):=by omega
 have bZ:∀j,w.heap.size<=j->¬(j=bd\/T j):=λj p t=>t.elim (λh=>by omega) (λh=>by have:=W.out j h;omega);have N:Hid (∀j,w.heap.size<=j->¬(j=bd\/T j)):=bZ;clear bZ;unfold qt at a4;have dW:¬k.heap.size=o.heap.size:=by omega
 have dY:¬k.heap.size=g:=by omega
 have dO:¬k.heap.size=w.heap.size:=by omega
 have aq:Hid (za (λ_=>False) k k.drew):=za.drew _ k;have R:Hid (za (λ_=>False) k (k.alloc (.cells #[.string ⟨#[]⟩,.int .i64 0,.bool false,.int .i64 0,.int .i64 0] 109)).drew):=(za.alloc _ _ _).trans (za.drew _ _) iL;have a1:Hid (Cw (k.alloc (.cells #[.string ⟨#[]⟩,.int .i64 0,.bool false,.int .i64 0,.int .i64 0] 109)).drew M bd S T {D with reads:=D.reads+L} C):=(bk.kept0 aH).kept0 R.out;have cN:(k.alloc (.cells #[.string ⟨#[]⟩,.int .i64 0,.bool false,.int .i64 0,.int .i64 0] 109)).heap.size=k.heap.size+1:=by simp
 go_wp2_with fail
 go_region_held3 (λw'=>w'.cell? ⟨o.heap.size,1,none⟩=some (.slice (some ⟨g,aE,none⟩) es.length u)/\w'.cell? ⟨g,aE+c*5+4,none⟩=some (.int .i64 (ck:Int))/\w'.cell? ⟨w.heap.size,0,none⟩=some (.string e.pl.key)/\w'.cell? ⟨w.heap.size,1,none⟩=some (.int .i64 e.pl.num)/\w'.cell? ⟨w.heap.size,2,none⟩=some (.bool e.mark)/\w'.cell? ⟨w.heap.size,3,none⟩=some (.int .i64 (e.size:Int))/\w'.cell? ⟨w.heap.size,4,none⟩=some (.int .i64 (e.at_:Int))) (go_keep) ((go_at_call 137;first
  |(refine(a4 _ (by exact bq)).mono ?_;rintro r l ⟨rfl,⟨U,I,cm,cf,aQ,aN⟩,ad⟩;have aO:Hid _:=aQ;have a2:Hid (∀j,I j->T j\/k.drew.heap.size<=j):=aN;have bY:Hid (za (λj=>j=bd\/T j) k.drew l):=ad;have x:Hid (za (λj=>j=bd\/T j) k l):=(aq.mono fE).trans ad iL;have ay:Hid (l.heap[o.heap.size]? =_):=(x.block _ (show o.heap.size<k.heap.size by omega) (N _ (by omega))).trans aV.out;have A:Hid (l.heap[w.heap.size]? =_):=(x.block _ (show w.heap.size<k.heap.size by omega) (N _ (by omega))).trans Q.out;have bE:Hid (l.heap[w.heap.size+1]? =_):=(x.block _ (show w.heap.size+1<k.heap.size by omega) (N _ (by omega))).trans bn.out;have b1:l.cell? ⟨o.heap.size,1,none⟩=some (.slice (some ⟨g,aE,none⟩) es.length u):=(cR ay.out rfl);have bT:l.cell? ⟨g,aE+c*5+4,none⟩=some (.int .i64 (ck:Int)):=(x.cell (a:=⟨g,aE+c*5+4,none⟩) (show g<k.heap.size by omega) (N g (by omega))).trans cq;have b7:l.cell? ⟨w.heap.size,0,none⟩=some (.string e.pl.key):=(cR A.out rfl);have b5:l.cell? ⟨w.heap.size,1,none⟩=some (.int .i64 e.pl.num):=(cR A.out rfl);have b4:l.cell? ⟨w.heap.size,2,none⟩=some (.bool e.mark):=(cR A.out rfl);have bX:l.cell? ⟨w.heap.size,3,none⟩=some (.int .i64 (e.size:Int)):=(cR A.out rfl);have bU:l.cell? ⟨w.heap.size,4,none⟩=some (.int .i64 (e.at_:Int)):=(cR A.out rfl);have be:k.heap.size<=l.heap.size:=x.size;have en:¬o.heap.size=l.heap.size:=(by omega);have d8:¬g=l.heap.size:=(by omega);have ee:¬w.heap.size=l.heap.size:=(by omega);clear aQ aN ad)
  |(refine(a4 _ (by exact a1)).mono ?_;rintro r l ⟨rfl,⟨U,I,cm,cf,aQ,aN⟩,ad⟩;have aO:Hid _:=aQ;have a2:Hid (∀j,I j->T j\/(k.alloc (.cells #[.string ⟨#[]⟩,.int .i64 0,.bool false,.int .i64 0,.int .i64 0] 109)).drew.heap.size<=j):=aN;have bY:Hid (za (λj=>j=bd\/T j) (k.alloc (.cells #[.string ⟨#[]⟩,.int .i64 0,.bool false,.int .i64 0,.int .i64 0] 109)).drew l):=ad;have x:Hid (za (λj=>j=bd\/T j) k l):=(R.mono fE).trans ad iL;have ay:Hid (l.heap[o.heap.size]? =_):=(x.block _ (show o.heap.size<k.heap.size by omega) (N _ (by omega))).trans aV.out;have A:Hid (l.heap[w.heap.size]? =_):=(x.block _ (show w.heap.size<k.heap.size by omega) (N _ (by omega))).trans Q.out;have bE:Hid (l.heap[w.heap.size+1]? =_):=(x.block _ (show w.heap.size+1<k.heap.size by omega) (N _ (by omega))).trans bn.out;have b1:l.cell? ⟨o.heap.size,1,none⟩=some (.slice (some ⟨g,aE,none⟩) es.length u):=(cR ay.out rfl);have bT:l.cell? ⟨g,aE+c*5+4,none⟩=some (.int .i64 (ck:Int)):=(x.cell (a:=⟨g,aE+c*5+4,none⟩) (show g<k.heap.size by omega) (N g (by omega))).trans cq;have b7:l.cell? ⟨w.heap.size,0,none⟩=some (.string e.pl.key):=(cR A.out rfl);have b5:l.cell? ⟨w.heap.size,1,none⟩=some (.int .i64 e.pl.num):=(cR A.out rfl);have b4:l.cell? ⟨w.heap.size,2,none⟩=some (.bool e.mark):=(cR A.out rfl);have bX:l.cell? ⟨w.heap.size,3,none⟩=some (.int .i64 (e.size:Int)):=(cR A.out rfl);have bU:l.cell? ⟨w.heap.size,4,none⟩=some (.int .i64 (e.at_:Int)):=(cR A.out rfl);have be:k.heap.size<=l.heap.size:=x.size;have J:Hid (l.heap[k.heap.size]? =some (.cells #[.string ⟨#[]⟩,.int .i64 0,.bool false,.int .i64 0,.int .i64 0] 109 (0,0))):=(ad.block k.heap.size (show k.heap.size<(k.alloc (.cells #[.string ⟨#[]⟩,.int .i64 0,.bool false,.int .i64 0,.int .i64 0] 109)).heap.size by rw [cN];omega) (N _ (by omega))).trans (ac k _);have eb:l.cell? ⟨k.heap.size,0,none⟩=some (.string ⟨#[]⟩):=(cR J.out rfl);have et:=aa l k.heap.size 0 _ _ J.out;have eu:l.cell? ⟨k.heap.size,1,none⟩=some (.int .i64 0):=(cR J.out rfl);have em:=aa l k.heap.size 1 _ _ J.out;have ec:l.cell? ⟨k.heap.size,2,none⟩=some (.bool false):=(cR J.out rfl);have ef:=aa l k.heap.size 2 _ _ J.out;have eq:l.cell? ⟨k.heap.size,3,none⟩=some (.int .i64 0):=(cR J.out rfl);have ed:=aa l k.heap.size 3 _ _ J.out;have ei:l.cell? ⟨k.heap.size,4,none⟩=some (.int .i64 0):=(cR J.out rfl);have d9:=aa l k.heap.size 4 _ _ J.out;clear aQ aN ad)))
 have bO:Hid (za (λ_=>False) l (l.alloc (.cells #[.string d.pl.key,.int .i64 d.pl.num,.bool d.mark,.int .i64 (d.size:Int),.int .i64 (d.at_:Int)] 109))):=za.alloc _ _ _;have an:Hid ((l.alloc (.cells #[.string d.pl.key,.int .i64 d.pl.num,.bool d.mark,.int .i64 (d.size:Int),.int .i64 (d.at_:Int)] 109)).heap[l.heap.size]? =some (.cells #[.string d.pl.key,.int .i64 d.pl.num,.bool d.mark,.int .i64 (d.size:Int),.int .i64 (d.at_:Int)] 109 (0,0))):=ac l _;have bl:Hid (Cw (l.alloc (.cells #[.string d.pl.key,.int .i64 d.pl.num,.bool d.mark,.int .i64 (d.size:Int),.int .i64 (d.at_:Int)] 109)) M bd S I {D with reads:=D.reads+L+U} G):=aO.kept0 (za.alloc _ _ _);have aG:Hid (∀j,j<k.heap.size->(l.alloc (.cells #[.string d.pl.key,.int .i64 d.pl.num,.bool d.mark,.int .i64 (d.size:Int),.int .i64 (d.at_:Int)] 109)).heap[j]? =l.heap[j]?):=λj p=>bO.block j (by omega) id;have bo:Hid (za (λj=>j=bd\/T j) w (l.alloc (.cells #[.string d.pl.key,.int .i64 d.pl.num,.bool d.mark,.int .i64 (d.size:Int),.int .i64 (d.at_:Int)] 109))):=(br.trans x iL).trans (za.alloc (λ_=>False) _ _) fE;have bx:Hid (za (λj=>j=bd\/T j) k _):=x.trans (za.alloc (λ_=>False) l (.cells #[.string d.pl.key,.int .i64 d.pl.num,.bool d.mark,.int .i64 (d.size:Int),.int .i64 (d.at_:Int)] 109)) fE;have K:Hid (∀j,I j->T j\/k.heap.size<=j):=a2.out;have cj:l.heap.size<=(l.alloc (.cells #[.string d.pl.key,.int .i64 d.pl.num,.bool d.mark,.int .i64 (d.size:Int),.int .i64 (d.at_:Int)] 109)).heap.size:=by simp
 have ce:k.heap.size<=l.heap.size/\l.heap.size<(l.alloc (.cells #[.string d.pl.key,.int .i64 d.pl.num,.bool d.mark,.int .i64 (d.size:Int),.int .i64 (d.at_:Int)] 109)).heap.size:=⟨be,by simp⟩;have aW:Hid (¬I l.heap.size):=λt=>by have:=aO.chg.lt _ t;omega
 clear bO;generalize (l.alloc (.cells #[.string d.pl.key,.int .i64 d.pl.num,.bool d.mark,.int .i64 (d.size:Int),.int .i64 (d.at_:Int)] 109))=X at*;generalize cv:l.heap.size=bb at*
 rotate_left
 obtain⟨bg,ap⟩:=kJ l k.heap.size 109 _ _ _ _ _ (.string d.pl.key) (.int .i64 d.pl.num) (.bool d.mark) (.int .i64 (d.size:Int)) (.int .i64 (d.at_:Int)) J.out;have an:Hid ((((((l.setCell ⟨k.heap.size,0,none⟩ (.string d.pl.key)).setCell ⟨k.heap.size,1,none⟩ (.int .i64 d.pl.num)).setCell ⟨k.heap.size,2,none⟩ (.bool d.mark)).setCell ⟨k.heap.size,3,none⟩ (.int .i64 (d.size:Int))).setCell ⟨k.heap.size,4,none⟩ (.int .i64 (d.at_:Int))).heap[k.heap.size]? =some (.cells #[.string d.pl.key,.int .i64 d.pl.num,.bool d.mark,.int .i64 (d.size:Int),.int .i64 (d.at_:Int)] 109 (0,0))):=bg;have aG:Hid (∀j,j<k.heap.size->(((((l.setCell ⟨k.heap.size,0,none⟩ (.string d.pl.key)).setCell ⟨k.heap.size,1,none⟩ (.int .i64 d.pl.num)).setCell ⟨k.heap.size,2,none⟩ (.bool d.mark)).setCell ⟨k.heap.size,3,none⟩ (.int .i64 (d.size:Int))).setCell ⟨k.heap.size,4,none⟩ (.int .i64 (d.at_:Int))).heap[j]? =l.heap[j]?):=λj p=>ap.block j (by omega) (by omega);have K:Hid (∀j,I j->T j\/k.heap.size<=j):=λj p=>(a2 j p).imp id (λh=>by have h':(k.alloc (.cells #[.string ⟨#[]⟩,.int .i64 0,.bool false,.int .i64 0,.int .i64 0] 109)).heap.size<=j:=h;omega)
 have aW:Hid (¬I k.heap.size):=λt=>by
  rcases a2 _ t with H|H;.have:=W.out _ H;omega
  .have h':(k.alloc (.cells #[.string ⟨#[]⟩,.int .i64 0,.bool false,.int .i64 0,.int .i64 0] 109)).heap.size<=k.heap.size:=H;omega
 have bl:Hid (Cw (((((l.setCell ⟨k.heap.size,0,none⟩ (.string d.pl.key)).setCell ⟨k.heap.size,1,none⟩ (.int .i64 d.pl.num)).setCell ⟨k.heap.size,2,none⟩ (.bool d.mark)).setCell ⟨k.heap.size,3,none⟩ (.int .i64 (d.size:Int))).setCell ⟨k.heap.size,4,none⟩ (.int .i64 (d.at_:Int))) M bd S I {D with reads:=D.reads+L+U} G):=aO.kept ap (λj p al=>by have:=aU.out j p;omega) (λj p al=>aW (by rw [<-al];exact p));have bo:Hid (za (λj=>j=bd\/T j) w (((((l.setCell ⟨k.heap.size,0,none⟩ (.string d.pl.key)).setCell ⟨k.heap.size,1,none⟩ (.int .i64 d.pl.num)).setCell ⟨k.heap.size,2,none⟩ (.bool d.mark)).setCell ⟨k.heap.size,3,none⟩ (.int .i64 (d.size:Int))).setCell ⟨k.heap.size,4,none⟩ (.int .i64 (d.at_:Int)))):=(br.trans x iL).trans ap (λj p=>.inr (by omega));have bx:Hid (za (λj=>j=bd\/T j) k _):=x.trans ap (λj p=>.inr (by omega));have cj:l.heap.size<=(((((l.setCell ⟨k.heap.size,0,none⟩ (.string d.pl.key)).setCell ⟨k.heap.size,1,none⟩ (.int .i64 d.pl.num)).setCell ⟨k.heap.size,2,none⟩ (.bool d.mark)).setCell ⟨k.heap.size,3,none⟩ (.int .i64 (d.size:Int))).setCell ⟨k.heap.size,4,none⟩ (.int .i64 (d.at_:Int))).heap.size:=ap.size;have ce:k.heap.size<=k.heap.size/\k.heap.size<(((((l.setCell ⟨k.heap.size,0,none⟩ (.string d.pl.key)).setCell ⟨k.heap.size,1,none⟩ (.int .i64 d.pl.num)).setCell ⟨k.heap.size,2,none⟩ (.bool d.mark)).setCell ⟨k.heap.size,3,none⟩ (.int .i64 (d.size:Int))).setCell ⟨k.heap.size,4,none⟩ (.int .i64 (d.at_:Int))).heap.size:=⟨aF _,(lT bg)⟩;clear bg ap J;generalize (((((l.setCell ⟨k.heap.size,0,none⟩ (.string d.pl.key)).setCell ⟨k.heap.size,1,none⟩ (.int .i64 d.pl.num)).setCell ⟨k.heap.size,2,none⟩ (.bool d.mark)).setCell ⟨k.heap.size,3,none⟩ (.int .i64 (d.size:Int))).setCell ⟨k.heap.size,4,none⟩ (.int .i64 (d.at_:Int)))=X at*;generalize cv:k.heap.size=bb at an ce aW ⊢
 rotate_left
 all_goals
  have cy:Hid (X.heap[o.heap.size]? =_):=(aG _ (by omega)).trans ay.out;have B:Hid (X.heap[w.heap.size]? =_):=(aG _ (by omega)).trans A.out;have ci:Hid (X.heap[w.heap.size+1]? =_):=(aG _ (by omega)).trans bE.out;have cS:Hid (X.ownsRow 0 109 5 (.slice (some ⟨g,aE,none⟩) es.length u) es.length (zj es)):=bx.owns cH (λj p=>N j (by have:=O.out j p;omega));have cz:Hid (∀j,I j->j<X.heap.size):=bl.chg.lt;clear b1 bT b7 b5 b4 bX bU bI bL bG bH bN bM cq aG x bY aO bq a1 aq R a4;have u0:X.cell? ⟨bb,0,none⟩=some (.string d.pl.key):=cR an.out rfl;have dG:X.cell? ⟨w.heap.size,0,none⟩=some (.string e.pl.key):=cR B.out rfl;have c3:=aa X w.heap.size 0 _ _ B.out;have u1:X.cell? ⟨bb,1,none⟩=some (.int .i64 d.pl.num):=cR an.out rfl;have dk:X.cell? ⟨w.heap.size,1,none⟩=some (.int .i64 e.pl.num):=cR B.out rfl;have c7:=aa X w.heap.size 1 _ _ B.out;have u2:X.cell? ⟨bb,2,none⟩=some (.bool d.mark):=cR an.out rfl;have dN:X.cell? ⟨w.heap.size,2,none⟩=some (.bool e.mark):=cR B.out rfl;have cE:=aa X w.heap.size 2 _ _ B.out;have u3:X.cell? ⟨bb,3,none⟩=some (.int .i64 (d.size:Int)):=cR an.out rfl;have dm:X.cell? ⟨w.heap.size,3,none⟩=some (.int .i64 (e.size:Int)):=cR B.out rfl;have cM:=aa X w.heap.size 3 _ _ B.out;have u4:X.cell? ⟨bb,4,none⟩=some (.int .i64 (d.at_:Int)):=cR an.out rfl;have dp:X.cell? ⟨w.heap.size,4,none⟩=some (.int .i64 (e.at_:Int)):=cR B.out rfl;have cZ:=aa X w.heap.size 4 _ _ B.out;go_wp2
  go_region
  obtain⟨cb,b2⟩:=kJ X w.heap.size 109 _ _ _ _ _ (.string d.pl.key) (.int .i64 d.pl.num) (.bool d.mark) (.int .i64 (d.size:Int)) (.int .i64 (d.at_:Int)) B.out;have ao:Hid ((((((X.setCell ⟨w.heap.size,0,none⟩ (.string d.pl.key)).setCell ⟨w.heap.size,1,none⟩ (.int .i64 d.pl.num)).setCell ⟨w.heap.size,2,none⟩ (.bool d.mark)).setCell ⟨w.heap.size,3,none⟩ (.int .i64 (d.size:Int))).setCell ⟨w.heap.size,4,none⟩ (.int .i64 (d.at_:Int))).drew.heap[w.heap.size]? =_):=cb;have Y:Hid (za (λj=>j=w.heap.size) X (((((X.setCell ⟨w.heap.size,0,none⟩ (.string d.pl.key)).setCell ⟨w.heap.size,1,none⟩ (.int .i64 d.pl.num)).setCell ⟨w.heap.size,2,none⟩ (.bool d.mark)).setCell ⟨w.heap.size,3,none⟩ (.int .i64 (d.size:Int))).setCell ⟨w.heap.size,4,none⟩ (.int .i64 (d.at_:Int))).drew):=b2.trans (za.drew (λ_=>False) _) fE;clear cb b2;generalize (((((X.setCell ⟨w.heap.size,0,none⟩ (.string d.pl.key)).setCell ⟨w.heap.size,1,none⟩ (.int .i64 d.pl.num)).setCell ⟨w.heap.size,2,none⟩ (.bool d.mark)).setCell ⟨w.heap.size,3,none⟩ (.int .i64 (d.size:Int))).setCell ⟨w.heap.size,4,none⟩ (.int .i64 (d.at_:Int))).drew=F at*;have dX:=Y.size;have bt:Hid (F.heap[o.heap.size]? =_):=(Y.block _ (by omega) (by omega)).trans cy.out;have cx:Hid (F.heap[w.heap.size+1]? =_):=(Y.block _ (by omega) (by omega)).trans ci.out;have cD:Hid (F.ownsRow 0 109 5 (.slice (some ⟨g,aE,none⟩) es.length u) es.length (zj es)):=Y.owns cS (λj p al=>by have:=O.out j p;omega)
  have cA:Hid (Cw F M bd S I {D with reads:=D.reads+L+U} G):=bl.kept Y (λj p al=>by have:=aU.out j p;omega) (λj p al=>by
   rcases K j p with H|H;.have:=W.out j H;omega
   .omega)
  have cQ:Hid (za (λj=>j=bd\/T j) w F):=bo.trans Y (λj p=>.inr (by omega));clear u0 u1 u2 u3 u4 dG dk dN dm dp c3 c7 cE cM cZ;have bI:F.cell? ⟨w.heap.size,0,none⟩=some (.string d.pl.key):=cR ao.out rfl;have bL:F.cell? ⟨w.heap.size,1,none⟩=some (.int .i64 d.pl.num):=cR ao.out rfl;have bG:F.cell? ⟨w.heap.size,2,none⟩=some (.bool d.mark):=cR ao.out rfl;have bH:F.cell? ⟨w.heap.size,3,none⟩=some (.int .i64 (d.size:Int)):=cR ao.out rfl;have bN:F.cell? ⟨w.heap.size,4,none⟩=some (.int .i64 (d.at_:Int)):=cR ao.out rfl;have bM:F.cell? ⟨o.heap.size,1,none⟩=some (.slice (some ⟨g,aE,none⟩) es.length u):=cR bt.out rfl;go_wp2_with fail;rw [show ((c:Nat):Int)+1=((c+1:Nat):Int) from by omega];have a8:Hid (za (λ_=>False) F (F.alloc (.cells #[.string d.pl.key,.int .i64 d.pl.num,.bool d.mark,.int .i64 (d.size:Int),.int .i64 (d.at_:Int)] 109))):=za.alloc _ _ _;have cV:Hid ((F.alloc (.cells #[.string d.pl.key,.int .i64 d.pl.num,.bool d.mark,.int .i64 (d.size:Int),.int .i64 (d.at_:Int)] 109)).heap[F.heap.size]? =some (.cells (qt d).toArray 109 (0,0))):=ac F _;have ej:(F.alloc (.cells #[.string d.pl.key,.int .i64 d.pl.num,.bool d.mark,.int .i64 (d.size:Int),.int .i64 (d.at_:Int)] 109)).heap.size=F.heap.size+1:=by simp
  generalize (F.alloc (.cells #[.string d.pl.key,.int .i64 d.pl.num,.bool d.mark,.int .i64 (d.size:Int),.int .i64 (d.at_:Int)] 109))=dQ at*;refine(uO dQ (some ⟨g,aE,none⟩) es.length u (c+1) es rfl (a8.owns cD nF) F.heap.size (λt=>by have:=(O _ t).2;omega) d cV (by omega) (by omega)).mono ?_;rintro r V ⟨z,af,rfl,ab⟩;rw [cY.out] at ab;have dH:=ab.kept.size;have bf:∀j,o.heap.size<=j\/j<ca.heap.size->¬(Value.slice (some ⟨g,aE,none⟩) es.length u).ownBlock=some j:=λj p t=>by have:=O.out j t;omega
  have ax:Hid (V.heap[o.heap.size]? =_):=(ab.kept.block _ (by omega) (bf _ (.inl (aF _)))).trans ((a8.block _ (by omega) id).trans bt);have cl:Hid (V.heap[w.heap.size+1]? =_):=(ab.kept.block _ (by omega) (bf _ (.inr (by omega)))).trans ((a8.block _ (by omega) id).trans cx)
  have cI:ca.heap.size<=z/\z≠o.heap.size/\¬I z:=by
   rcases ab.at_ with H|H;.have:=O.out z H;exact⟨by omega,by omega,λt=>(K z t).elim (λh=>by have:=W.out z h;omega) (λh=>by omega)⟩
   .exact⟨by omega,by omega,λt=>by have:=cz.out z t;omega⟩
  have cJ:Hid (za (λj=>(Value.slice (some ⟨g,aE,none⟩) es.length u).ownBlock=some j) F V):=(a8.mono fE).trans ab.kept iL;have dD:V.cell? ⟨o.heap.size,0,none⟩=some (.int .u8 4):=cR ax.out rfl;have d1:V.cell? ⟨o.heap.size,1,none⟩=some (.slice (some ⟨g,aE,none⟩) es.length u):=cR ax.out rfl;have c1:=aa V o.heap.size 1 _ _ ax.out;change Hid _ at ab;clear bf;go_wp2_with fail;have bw:Hid ((V.setCell ⟨o.heap.size,1,none⟩ (.slice (some ⟨z,0,none⟩) (es.length+1) af)).heap[o.heap.size]? =some (.cells #[.int .u8 4,.slice (some ⟨z,0,none⟩) (es.length+1) af] 209 (0,0))):=heap_setCell_same V o.heap.size 1 _ _ _ ax.out;have bc:Hid (za (λj=>j=o.heap.size) V (V.setCell ⟨o.heap.size,1,none⟩ (.slice (some ⟨z,0,none⟩) (es.length+1) af))):=za.setCell (S:=λj=>j=o.heap.size) V ⟨o.heap.size,1,none⟩ _ rfl;have el:(V.setCell ⟨o.heap.size,1,none⟩ (.slice (some ⟨z,0,none⟩) (es.length+1) af)).heap.size=V.heap.size:=by simp
  generalize (V.setCell ⟨o.heap.size,1,none⟩ (.slice (some ⟨z,0,none⟩) (es.length+1) af))=P at*;have cc:Hid (P.ownsRow 0 109 5 (.slice (some ⟨z,0,none⟩) s.length af) s.length (zj s)):=bc.owns ab.own (λj p al=>by simp [Value.ownBlock] at p;omega);have cG:Hid (qg P (λj=>j=z) (some ⟨z,0,none⟩) s):=qg.of_own cc (λj p=>by simp [Value.ownBlock] at p;exact p.symm) (by omega)
  have b9:es.length+1<=af/\af<=9223372036854775807:=by
   rcases cc.2 with⟨H,h2⟩|⟨ev,dK,d5,ds,_,ew,H,h2,_⟩;.cases H
   .cases ds;unfold maxLen at h2;omega
  have b3:Hid (za (λj=>(Value.slice (some ⟨g,aE,none⟩) es.length u).ownBlock=some j\/j=o.heap.size) F P):=(cJ.mono iL).trans bc (λ_ h=>.inl (.inr h))
  have cp:Hid (Cw P M bd S I {D with reads:=D.reads+L+U} G):=cA.kept b3 (λj p t=>by
   have:=aU.out j p;rcases t with t|t;.have:=O.out j t;omega
   .omega) (λj p t=>by
   rcases K j p with H|H
   .have:=W.out j H;rcases t with t|t;.have:=O.out j t;omega
    .omega
   .rcases t with t|t;.have:=O.out j t;omega
    .omega)
  have co:Hid (P.heap[w.heap.size+1]? =_):=(bc.block _ (by omega) (by omega)).trans cl.out
  have cr:Hid (za (λj=>j=bd\/T j) w P):=cQ.trans b3 (λj p=>by
   rcases p with t|t;.have:=O.out j t;exact .inr (by omega)
   .exact .inr (by omega))
  have c5:P.cell? ⟨o.heap.size,0,none⟩=some (.int .u8 4):=cR bw.out rfl;have cL:P.cell? ⟨o.heap.size,1,none⟩=some (.slice (some ⟨z,0,none⟩) (es.length+1) af):=cR bw.out rfl;have dw:o.heap.size<P.heap.size:=by omega
  clear dD d1 c1;go_region_held3 (λw'=>w'.cell? ⟨o.heap.size,0,none⟩=some (.int .u8 4)/\w'.cell? ⟨o.heap.size,1,none⟩=some (.slice (some ⟨z,0,none⟩) (es.length+1) af)) (go_keep) ((go_at_call 129;refine(j9 _ 4 (by decide)).mono ?_;rintro r dy ⟨rfl,bP⟩;rw [bP];clear bP dy));have c6:room 4=6:=rfl;have aJ:Hid (za (λ_=>False) P P.drew):=za.drew _ P;have ep:P.drew.heap.size=P.heap.size:=rfl;generalize P.drew=aA at*;have bQ:Hid (qg aA (λj=>j=z) (some ⟨z,0,none⟩) s):=cG.kept aJ nF;have bD:Hid (Cw aA M bd S I {D with reads:=D.reads+L+U} G):=cp.kept0 aJ.out;have bm:Hid (aA.heap[w.heap.size+1]? =_):=(aJ.block _ (by omega) id).trans co.out;have d7:Hid (aA.heap[o.heap.size]? =_):=(aJ.block _ (by omega) id).trans bw.out;have aD:Hid (za (λj=>j=bd\/T j) w aA):=cr.trans aJ fE;have cB:Hid (∀j,j=z->¬I j):=λj p dz=>cI.2.2 (by rw [<-p];exact dz);have dd:Hid (∀j,j=z->j≠bd):=λj p al=>by omega
  clear c5 cL;by_cases eh:es.length+1<=6
  .have au:(false,qz,G.put E (zm (zc 4 s)),aj)=(f,v,bv,bJ):=by
    have:=a7.out;unfold Ck.more at this;rw [aB (by omega)] at this;exact this
   clear a7;cases au;have dn:(es.length:Int)+1<=((room 4:Nat):Int):=by rw [c6];omega
   go_wp2_with fail;refine(vh aA M bd S I _ G bD (λj=>j=z) (some ⟨z,0,none⟩) af 4 (.inl rfl) s bQ bj (by omega) E (by omega) (es.length+1) ba).mono ?_;rintro r y ⟨rfl,⟨bF,aK,aL⟩,am⟩;have a3:Hid _:=aK;have aR:Hid _:=aL;have bB:Hid (za I aA y):=am;have q:Hid (y.heap[w.heap.size+1]? =_):=(am.block _ (by omega) (λt=>(K _ t).elim (λh=>by have:=W.out _ h;omega) (λh=>by omega))).trans bm.out;have q0:y.cell? ⟨w.heap.size+1,0,none⟩=some (.string ⟨#[]⟩):=cR q.out rfl;have d0:y.cell? ⟨w.heap.size+1,1,none⟩=some (.int .i64 0):=cR q.out rfl;have dC:y.cell? ⟨w.heap.size+1,2,none⟩=some (.bool false):=cR q.out rfl;have dR:y.cell? ⟨w.heap.size+1,3,none⟩=some (.int .i64 0):=cR q.out rfl;have dP:y.cell? ⟨w.heap.size+1,4,none⟩=some (.int .i64 0):=cR q.out rfl;have dZ:=aa y (w.heap.size+1) 0 _ _ q.out;have dM:=aa y (w.heap.size+1) 1 _ _ q.out;have dS:=aa y (w.heap.size+1) 2 _ _ q.out;have dx:=aa y (w.heap.size+1) 3 _ _ q.out;have dT:=aa y (w.heap.size+1) 4 _ _ q.out;clear aK aL am;go_wp2;have cF:Hid (Cw y M bd S bF {D with reads:=D.reads+(L+U)} (G.put E (zm (zc 4 s)))):=by have:=a3.out;rw [a9] at this;exact this
   obtain⟨cw,bu⟩:=kJ y (w.heap.size+1) 109 _ _ _ _ _ (.string ⟨#[]⟩) (.int .i64 0) (.bool false) (.int .i64 0) (.int .i64 0) q.out;refine bodyPost_ret (v:=.tuple #[.agg qz.toArray,.bool false]) (qK Tryz.results137 _ _ (w.heap.size+1) 109 _ (0,0) _ rfl cw Tryz.underlying109 rfl (by kernel_rfl)) rfl ⟨rfl,⟨L+U,bF,by omega,by omega,cF.kept bu (λj p al=>by have:=aU.out j p;omega) (λj p al=>?_),λj p=>(aR j p).elim (λh=>(K j h).imp id (λh=>by omega)) (λh=>.inr (by have:=aD.size;omega))⟩,?_⟩
   .rcases aR j p with H|H
    .rcases K j H with h2|h2;.have:=W.out j h2;omega
     .omega
    .omega
   .exact(aD.trans bB (λj p=>(K j p).elim (λh=>.inl (.inr h)) (λh=>.inr (by omega)))).trans bu (λj p=>.inr (by omega))
  .have au:(true,qt ⟨(s.getD (s.length/2) gQ).pl,false,0,(G.split D.bs.length aj E 4 s).1⟩,(G.split D.bs.length aj E 4 s).2.1,(G.split D.bs.length aj E 4 s).2.2)=(f,v,bv,bJ):=by
    have:=a7.out;unfold Ck.more at this;rw [aw (by omega)] at this;exact this
   clear a7;cases au;have cC:Hid (qF (G.look {D with reads:=D.reads+L+U} 2) aj):=by show qF _ _;rw [zF];exact df.out
   go_wp2_with fail;refine(Jo aA M bd S I _ G bD aj cC (by show 0<=D.reads+L+U;omega) (by show D.reads+L+U<=_;omega) (λj=>j=z) cB dd (some ⟨z,0,none⟩) af 4 (.inl rfl) s bQ bj (es.length+1) ba (by omega) (by omega) b9.1 b9.2 E (by omega)).mono ?_;rintro r y ⟨rfl,⟨cg,bF,d2,du,aK,aL⟩,am⟩;have a3:Hid _:=aK;have aR:Hid _:=aL;have bB:Hid (za (λj=>j=bd\/I j) aA y):=am;have q:Hid (y.heap[w.heap.size+1]? =_):=(am.block _ (by omega) (λt=>t.elim (λh=>by omega) (λt=>(K _ t).elim (λh=>by have:=W.out _ h;omega) (λh=>by omega)))).trans bm.out;have q0:y.cell? ⟨w.heap.size+1,0,none⟩=some (.string ⟨#[]⟩):=cR q.out rfl;have d0:y.cell? ⟨w.heap.size+1,1,none⟩=some (.int .i64 0):=cR q.out rfl;have dC:y.cell? ⟨w.heap.size+1,2,none⟩=some (.bool false):=cR q.out rfl;have dR:y.cell? ⟨w.heap.size+1,3,none⟩=some (.int .i64 0):=cR q.out rfl;have dP:y.cell? ⟨w.heap.size+1,4,none⟩=some (.int .i64 0):=cR q.out rfl;have dZ:=aa y (w.heap.size+1) 0 _ _ q.out;have dM:=aa y (w.heap.size+1) 1 _ _ q.out;have dS:=aa y (w.heap.size+1) 2 _ _ q.out;have dx:=aa y (w.heap.size+1) 3 _ _ q.out;have dT:=aa y (w.heap.size+1) 4 _ _ q.out;clear aK aL am;generalize bV:(s.getD (s.length/2) gQ).pl=bK at*;generalize cd:G.split D.bs.length aj E 4 s=dJ at*;obtain⟨cu,dl,dA⟩:=dJ;dsimp only at a3 ⊢;have cO:Hid ((s.getD (s.length/2) gQ).pl=bK):=bV;have bR:Hid (G.split D.bs.length aj E 4 s=(cu,dl,dA)):=cd;clear bV cd;unfold qt;go_wp2;obtain⟨cw,bu⟩:=kJ y (w.heap.size+1) 109 _ _ _ _ _ (.string bK.key) (.int .i64 bK.num) (.bool false) (.int .i64 0) (.int .i64 (cu:Int)) q.out;refine bodyPost_ret (v:=.tuple #[.agg (qt ⟨bK,false,0,cu⟩).toArray,.bool true]) (qK Tryz.results137 _ _ (w.heap.size+1) 109 _ (0,0) _ rfl cw Tryz.underlying109 rfl (by kernel_rfl)) rfl ⟨by rw [cO.out,bR.out],⟨L+U+cg,bF,by omega,by omega,?_,λj p=>(aR j p).elim (λh=>(K j h).imp id (λh=>by omega)) (λh=>.inr (by have:=aD.size;omega))⟩,?_⟩
   .have:=a3.kept bu (λj p al=>by have:=aU.out j p;omega) (λj p al=>by
     rcases aR j p with H|H
     .rcases K j H with h2|h2;.have:=W.out j h2;omega
      .omega
     .omega)
    have c4:D.reads+L+U+cg=D.reads+(L+U+cg):=by omega
    rw [c4] at this;rw [bR.out];exact this
   .exact(aD.trans bB (λj p=>p.elim (λh=>.inl (.inl h)) (λh=>(K j h).elim (λh=>.inl (.inr h)) (λh=>.inr (by omega))))).trans bu (λj p=>.inr (by omega))
end prog
namespace prog
open ref
variable {h b ta:Nat}{es:List En}{e:En}{q0 q:Pl}{nb:List Nat}
structure dX {h:Nat} (t:Tr h) (e:En) (t':Tr h):Prop where
 blk:t'.blk=t.blk
 good:t'.Good
 lo:t.items.length<=t'.items.length
 hi:t'.items.length<=6
 ents:t'.ents=yx e t.ents
 first:∀p,t.First p->t'.First p
structure fI {h:Nat} (t:Tr h) (e:En) (t' u:Tr h) (q:Pl):Prop where
 blk:t'.blk=t.blk
 good:t'.Good
 goodu:u.Good
 lo:3<=t'.items.length
 hi:t'.items.length<=6
 lou:3<=u.items.length
 hiu:u.items.length<=6
 ents:t'.ents++u.ents=yx e t.ents
 first:∀p,t.First p->t'.First p
 firstu:u.First q
 qok:q.Ok
 left:∀x∈t'.ents,x.pl.lt q=true
 right:∀x∈u.ents,¬x.pl.lt q=true
theorem zx(b:Nat)(a:List (Pl×Tr h)):(Tr.items (h:=h+1) (b,a)).length=a.length:=yL (h:=h) (b,a)
theorem VV(g:Tr.Good (h:=0) (b,es))(c:e.Ok)(d:(yx e es).length<=6):dX (h:=0) (b,es) e (b,yx e es) where
 blk:=rfl
 good:=⟨g.1,λf a=>by
  rcases ke.1 a with rfl|a;.exact c
  .exact g.2 f a⟩
 lo:=by show es.length<=(yx e es).length;rw [(kf e es).length_eq];simp
 hi:=d
 ents:=rfl
 first:=λ_ h=>h
theorem Jp(g:∀b∈es,b.Ok)(c:e.Ok):∀b∈yx e es,b.Ok:=λb a=>by
 rcases ke.1 a with rfl|a;.exact c
 .exact g b a
theorem Q5(e:En)(es:List En):(yx e es).length=es.length+1:=by rw [(kf e es).length_eq];simp
theorem VW{l:List En}(g:Tr.Good (h:=0) (b,es))(v:e.Ok)(o:ta<65536)(r:yO es)(t:∀f∈es,f.pl≠e.pl)(j:yx e es=l)(u:es.length=6)(d:En):
 fI (h:=0) (b,es) e (b,l.take (l.length/2)) (ta,l.drop (l.length/2)) (l.getD (l.length/2) d).pl:=by
 have c:=Jp g.2 v;have i:=r.ins t;have k:l.length=7:=by rw [<-j,Q5,u]
 rw [j] at c i;rw [k];have q:l=l.take 3++l[3]::l.drop 4:=by rw [<-aI,aE]
 have s:l.getD (7/2) d=l[3]:=by rw [aA,aH (by omega)];rfl
 have n:yO (l.take 3++l[3]::l.drop 4):=by rw [<-q];exact i
 have m:=aX.1 n;have p:l.drop (7/2)=l[3]::l.drop 4:=aI (by omega);rw [s];refine⟨rfl,⟨g.1,λf a=>c f (aP a)⟩,⟨o,λf a=>c f (eK a)⟩,?_,?_,?_,?_,?_,λ_ h=>h,True.intro,(c _ (ai (by omega))).pl,?_,?_⟩;.show 3<=(l.take (7/2)).length;simp;omega
 .show (l.take (7/2)).length<=6;simp;omega
 .show 3<=(l.drop (7/2)).length;simp;omega
 .show (l.drop (7/2)).length<=6;simp;omega
 .show l.take (7/2)++l.drop (7/2)=yx e es;rw [aE,j]
 .intro f a;exact m.2.2 f a _ (al ..)
 .intro f a;have a:=a;rw [p] at a;rcases ar.1 a with rfl|a;.exact Pl.irrefl _
  .exact Pl.asymm ((aL.1 m.2.1).1 f a)
theorem Kids.route{A B:List (Pl×Tr h)}{tc:Tr h}(k:Kids (A++(q0,tc)::B))(o:¬e.pl.lt q0=true)(q:∀b∈B,e.pl.lt b.1=true):
 yx e (zJ (A++(q0,tc)::B))=zJ A++(yx e tc.ents++zJ B):=by
 obtain⟨u,s,m,v,t,r,i⟩:=k.mid;rw [zA,zr];refine VD (λg a=>Pl.lt_of_lt_not (m g a) o) (λg a=>?_);obtain⟨l,j,d⟩:=eW.1 a;obtain⟨c,f,rfl⟩:=au.1 j;have p:=i c f g d;have h2:=q c f
 cases n:g.pl.lt e.pl with
 |false=>rfl
 |true=>exact absurd (Pl.trans n h2) p
theorem jl{b':Nat}{A B B':List (Pl×Tr h)}{p:Pl}{tc tc':Tr h}(d:Tr.First (h:=h+1) (b,A++(q0,tc)::B) p):Tr.First (h:=h+1) (b',A++(q0,tc')::B') p:=by
 obtain⟨u,r,c⟩:=d;simp only at c
 cases A with
 |nil=>
  simp only [aK,eH,eS] at c;exact⟨tc',B',by simp [c.1.1]⟩
 |cons a A=>
  simp only [aT,eH] at c;exact⟨u,A++(q0,tc')::B',by simp [c.1]⟩
theorem Xz{A B:List (Pl×Tr h)}{tc tc':Tr h}(g:Tr.Good (h:=h+1) (b,A++(q0,tc)::B))(s:(A++(q0,tc)::B).length<=6)(n:¬e.pl.lt q0=true)(o:∀b∈B,e.pl.lt b.1=true)(k:dX tc e tc'):
 dX (h:=h+1) (b,A++(q0,tc)::B) e (b,A++(q0,tc')::B):=by
 have l:=g.kids;obtain⟨y,w,x,u,t,r,v⟩:=l.mid;have f:=g.full;simp only at f;have m:∀i∈tc'.ents,i=e\/i∈tc.ents:=λi a=>by rw [k.ents] at a;exact ke.1 a
 refine⟨rfl,?_,?_,?_,?_,λp q=>jl q⟩
 .refine Kids.node (l.swap k.good k.hi (k.first _ t) (λi a=>?_) (λb' j i a=>?_)) (λc d=>?_) g.1
  .rcases m i a with rfl|a;.exact n
   .exact u i (by rw [zr];exact af _ a)
  .rcases m i a with rfl|a;.exact o b' j
   .exact r b' j i (av _ a)
  .rcases ah.1 d with d|d;.exact f c (af _ d)
   .rcases ar.1 d with rfl|d;.exact aD (f (q0,tc) (by simp)) k.lo
    .exact f c (by simp [d])
 .refine aD (eE (zx _ _)) (aD ?_ (eE (zx _ _).symm));simp
 .exact aD (eE (zx _ _)) (by simpa using s)
 .show zJ (A++(q0,tc')::B)=yx e (zJ (A++(q0,tc)::B));rw [l.route n o,zA,zr,k.ents]
theorem Q6{A B:List (Pl×Tr h)}{tc tc' uc:Tr h}(g:Tr.Good (h:=h+1) (b,A++(q0,tc)::B))(s:¬e.pl.lt q0=true)(t:∀b∈B,e.pl.lt b.1=true)(k:fI tc e tc' uc q):
 Kids (A++(q0,tc')::(q,uc)::B)/\(∀c∈A++(q0,tc')::(q,uc)::B,3<=c.2.items.length)/\zJ (A++(q0,tc')::(q,uc)::B)=yx e (zJ (A++(q0,tc)::B)):=by
 have n:=g.kids;obtain⟨E,C,D,w,v,u,y⟩:=n.mid;have j:=g.full;simp only at j
 have r:∀d,d∈tc'.ents\/d∈uc.ents->d=e\/d∈tc.ents:=λd a=>by refine ke.1 (k.ents▸ ?_);exact ah.2 a
 have l:∀d,d∈tc'.ents\/d∈uc.ents->¬d.pl.lt q0=true:=λd a=>by
  rcases r d a with rfl|a;.exact s
  .exact w d (by rw [zr];exact af _ a)
 have m:∀b∈B,∀d,d∈tc'.ents\/d∈uc.ents->d.pl.lt b.1=true:=λb' f d a=>by
  rcases r d a with rfl|a;.exact t b' f
  .exact u b' f d (av _ a)
 obtain⟨d,a⟩:=k.good.some_ent (by have:=k.lo;omega);obtain⟨x,p⟩:=k.goodu.some_ent (by have:=k.lou;omega);refine⟨n.parted k.good k.goodu k.hi k.hiu k.qok (k.first _ v) k.firstu (Pl.lt_of_not (l d (.inl a)) (k.left d a)) k.left k.right (λz o=>l z (.inl o)) (λb' f z o=>m b' f z (.inr o)) (λb' f=>Pl.lt_of_not (k.right x p) (m b' f x (.inr p))),λc i=>?_,?_⟩
 .rcases ah.1 i with i|i;.exact j c (af _ i)
  .rcases ar.1 i with rfl|i;.exact k.lo
   .rcases ar.1 i with rfl|i;.exact k.lou
    .exact j c (by simp [i])
 .rw [n.route s t,zA,zr,zr,<-k.ents];simp
theorem XA{A B:List (Pl×Tr h)}{tc tc' uc:Tr h}(g:Tr.Good (h:=h+1) (b,A++(q0,tc)::B))(d:(A++(q0,tc)::B).length+1<=6)(c:¬e.pl.lt q0=true)(i:∀b∈B,e.pl.lt b.1=true)(k:fI tc e tc' uc q):
 dX (h:=h+1) (b,A++(q0,tc)::B) e (b,A++(q0,tc')::(q,uc)::B):=by
 obtain⟨f,h2,j⟩:=Q6 g c i k;refine⟨rfl,f.node h2 g.1,?_,?_,j,λp a=>jl a⟩;.refine aD (eE (zx _ _)) (aD ?_ (eE (zx _ _).symm));simp
 .exact aD (eE (zx _ _)) (by simp at d ⊢;omega)
theorem XB{A B:List (Pl×Tr h)}{tc tc' uc:Tr h}(g:Tr.Good (h:=h+1) (b,A++(q0,tc)::B))(G:(A++(q0,tc)::B).length=6)(x:ta<65536)(D:¬e.pl.lt q0=true)(K:∀b∈B,e.pl.lt b.1=true)(k:fI tc e tc' uc q)
 (a:List (Pl×Tr h)) (i:A++(q0,tc')::(q,uc)::B=a) (f:Pl) (n:(a.map Prod.fst)[3]? =some f):
 fI (h:=h+1) (b,A++(q0,tc)::B) e (b,a.take 3) (ta,a.drop 3) f:=by
 obtain⟨v,h2,w⟩:=Q6 g D K k;have E:a.length=7:=by rw [<-i];simp at G ⊢;omega
 have j:∀p,Tr.First (h:=h+1) (b,A++(q0,tc)::B) p->Tr.First (h:=h+1) (b,a.take 3) p:=λp F=>by obtain⟨u,r,o⟩:=jl (b':=b) (B':=(q,uc)::B) (tc':=tc') F;simp only at o;rw [i] at o;exact⟨u,r.take 2,by simp only;rw [o,iz]⟩
 rw [i] at v h2 w;have l:a.drop 3=a[3]::a.drop 4:=aI (by omega);have y:a=a.take 3++a[3]::a.drop 4:=by rw [<-l,aE]
 have d:a[3]=(f,a[3].2):=by
  have:a[3].1=f:=by rw [l0,aH (by omega)] at n;simpa using n
  rw [<-this]
 have m:Kids (a.take 3++(f,a[3].2)::a.drop 4):=by rw [<-d,<-y];exact v
 obtain⟨P,M,z,I,O,L,N⟩:=m.mid;have J:=m.left;have H:Kids (a.drop 3):=by rw [l,d];exact m.right
 refine⟨rfl,J.node (λc t=>h2 c (aP t)) g.1,H.node (λc t=>h2 c (eK t)) x,?_,?_,?_,?_,?_,j,?_,?_,?_,?_⟩;.refine aD ?_ (eE (zx _ _).symm);simp;omega
 .refine aD (eE (zx _ _)) ?_;simp;omega
 .refine aD ?_ (eE (zx _ _).symm);simp;omega
 .refine aD (eE (zx _ _)) ?_;simp;omega
 .show zJ (a.take 3)++zJ (a.drop 3)=yx e (zJ (A++(q0,tc)::B));rw [<-zA,aE,w]
 .exact⟨a[3].2,a.drop 4,by simp only;rw [l];exact congrArg (· ::a.drop 4) d⟩
 .exact(m.right.good (f,a[3].2) (al ..)).2.2
 .intro C s;exact z C s
 .intro C s;refine I C ?_;rw [<-d,<-l];exact s
def Tr.LayV{β:Type}(pg:Pg->β)(rd:Nat->β):{h:Nat}->Tr h->Prop
 |0,t=>rd t.1=pg (zc 5 t.2)
 |h+1,t=>rd t.1=pg (zc 4 (Tr.items (h:=h+1) t))/\∀c∈t.2,Tr.LayV pg rd (h:=h) c.2
theorem Tr.LayV.node{β:Type}{pg:Pg->β}{rd:Nat->β}:{h:Nat}->{t:Tr h}->t.LayV pg rd->rd t.blk=pg (zc (zO h) t.items)
 |0,_,l=>l
 |_+1,_,l=>l.1
theorem zV{a:List (Pl×Tr h)}{c:Pl×Tr h}{j:Nat}(d:c∈a)(b:j∈c.2.blocks):j∈zE a:=eW.2 ⟨_,au.2 ⟨c,d,rfl⟩,b⟩
theorem VX{b:List (Pl×Tr h)}{f:En}(a:f∈zJ b):∃c∈b,f∈c.2.ents:=by
 obtain⟨l,d,a⟩:=eW.1 a;obtain⟨c,e,rfl⟩:=au.1 d;exact⟨c,e,a⟩
theorem vC{a:List (Pl×Tr h)}{c:Pl×Tr h}{e:En}(d:c∈a)(b:e∈c.2.ents):e∈zJ a:=eW.2 ⟨_,au.2 ⟨c,d,rfl⟩,b⟩
theorem Tr.LayV.congr{β:Type}{pg:Pg->β}{rd a:Nat->β}:∀{h:Nat} {t:Tr h},t.LayV pg rd->(∀j∈t.blocks,a j=rd j)->t.LayV pg a
 |0,t,l,h=>(h t.1 (az.2 rfl)).trans l
 |h+1,t,l,he=>⟨(he t.1 (al ..)).trans l.1,λc b=>(l.2 c b).congr (λj d=>he j (am _ (zV b d)))⟩
theorem uR{A B:List (Pl×Tr h)}{tc tc':Tr h}(a:tc'.blocks.Perm (tc.blocks++nb)):
 (Tr.blocks (h:=h+1) (b,A++(q0,tc')::B)).Perm (Tr.blocks (h:=h+1) (b,A++(q0,tc)::B)++nb):=by
 show (b::zE (A++(q0,tc')::B)).Perm (b::zE (A++(q0,tc)::B)++nb);rw [qo,qB,qo,qB];simp only [aT,ak];refine List.Perm.cons b (i3 _ ?_);refine(a.append_right _).trans ?_;rw [ak];exact i3 _ eM
theorem jL{A B:List (Pl×Tr h)}{tc tc' uc:Tr h}(a:(tc'.blocks++uc.blocks).Perm (tc.blocks++nb)):
 (b::zE (A++(q0,tc')::(q,uc)::B)).Perm (Tr.blocks (h:=h+1) (b,A++(q0,tc)::B)++nb):=by
 show (b::zE (A++(q0,tc')::(q,uc)::B)).Perm (b::zE (A++(q0,tc)::B)++nb);rw [qo,qB,qB,qo,qB];simp only [aT,ak];refine List.Perm.cons b (i3 _ ?_);rw [<-ak];refine(a.append_right _).trans ?_;rw [ak];exact i3 _ eM
theorem uS{t:Tr (h+1)}{a:List (Pl×Tr h)}(c:(b::zE a).Perm (t.blocks++nb))(i:Nat):
 (Tr.blocks (h:=h+1) (b,a.take i)++Tr.blocks (h:=h+1) (ta,a.drop i)).Perm (t.blocks++(nb++[ta])):=by
 show (b::zE (a.take i)++ta::zE (a.drop i)).Perm _;have e:zE a=zE (a.take i)++zE (a.drop i):=by rw [<-qo,aE]
 refine List.perm_middle.trans ?_;rw [aT,<-e,<-ak];exact(c.cons ta).trans (eM (l₁:=[ta]))
theorem uj:∀(a:List (Pl×Tr h)),(∀c∈a,2*c.2.blocks.length+1<=c.2.ents.length)->2*(zE a).length+a.length<=(zJ a).length
 |[],_=>by simp [zE,zJ]
 |c::a,hc=>by have d:=hc c (al ..);have h2:=uj a (λe b=>hc e (am _ b));rw [qB,zr,ag,ag,ae];omega
theorem dY(k:Nat):∀(a:List (Pl×Tr h)),(∀c∈a,k<=2*c.2.blocks.length+1)->a.length*k<=2*(zE a).length+a.length
 |[],_=>by simp
 |c::a,hc=>by have d:=hc c (al ..);have h2:=dY k a (λe b=>hc e (am _ b));rw [qB,ag,ae,eJ];omega
theorem Tr.Good.few:∀{h:Nat} {t:Tr h},t.Good->3<=t.items.length->2*t.blocks.length+1<=t.ents.length
 |0,t,_,hl=>hl
 |h+1,t,g,hl=>by have:=uj t.2 (λc a=>(g.kids.good c a).1.few (g.full c a));rw [yL] at hl;rw [Tr.blocks_succ,Tr.ents_succ,ae];omega
theorem Tr.Good.many:∀{h:Nat} {t:Tr h},t.Good->3<=t.items.length->3^(h+1)<=2*t.blocks.length+1
 |0,t,_,hl=>by show 3<=2*1+1;omega
 |h+1,t,g,hl=>by
  have:=dY (3^(h+1)) t.2 (λc a=>(g.kids.good c a).1.many (g.full c a));rw [yL] at hl;rw [Tr.blocks_succ,ae,lQ,Nat.mul_comm]
  have h2:3*3^(h+1)-3<=t.2.length*3^(h+1)-t.2.length:=by rw [<-mf,<-mf];exact ee _ hl
  have b:t.2.length<=t.2.length*3^(h+1):=ly _ (mN (by omega));have d:3<=3*3^(h+1):=ly _ (mN (by omega));omega
def yh:Pl:=⟨⟨#[]⟩,0⟩
structure Tr.Root {h:Nat} (t:Tr h):Prop where
 good:t.Good
 hi:t.items.length<=6
 one:1<=t.items.length
 two:0<h->2<=t.items.length
 first:t.First yh
 srt:yO t.ents
theorem Tr.Root.few:∀{h:Nat} {t:Tr h},t.Root->2*t.blocks.length<=t.ents.length+1
 |0,t,r=>by have:=r.one;show 2*1<=t.2.length+1;have h2:t.2.length=t.items.length:=rfl;omega
 |h+1,t,r=>by have:=uj t.2 (λc a=>(r.good.kids.good c a).1.few (r.good.full c a));have b:=r.two (by omega);rw [yL] at b;rw [Tr.blocks_succ,Tr.ents_succ,ae];omega
theorem Tr.Root.many:∀{h:Nat} {t:Tr h},t.Root->3^h<=t.blocks.length
 |0,t,r=>by show 1<=1;omega
 |h+1,t,r=>by
  have:=dY (3^(h+1)) t.2 (λc a=>(r.good.kids.good c a).1.many (r.good.full c a));have b:=r.two (by omega);rw [yL] at b;rw [Tr.blocks_succ,ae]
  have h2:2*3^(h+1)-2<=t.2.length*3^(h+1)-t.2.length:=by rw [<-mf,<-mf];exact ee _ b
  have d:t.2.length<=t.2.length*3^(h+1):=ly _ (mN (by omega));have e:2<=2*3^(h+1):=ly _ (mN (by omega));omega
theorem Tr.Root.low{t:Tr h}(r:t.Root)(b:t.blocks.length<=979):h<=6:=by
 have:=r.many;by_cases a:h<=6;.exact a
 .have:3^7<=3^h:=lf (by omega) (by omega);omega
theorem UY(h:Nat):h+1<=3^h:=by
 induction h with
 |zero=>decide
 |succ h a=>rw [lQ];omega
end prog
end Go.Proofs.YtcoengihaobddaaGreatDoor

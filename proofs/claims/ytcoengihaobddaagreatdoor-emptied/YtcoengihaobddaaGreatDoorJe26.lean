/- Part 26 of 50 of a proof: Era1 -/
import Derived.Test.YtcoengihaobddaaGreatDoorJe25
import Derived.Test.YtcoengihaobddaaGreatDoorJe16
set_option maxHeartbeats 8000000
set_option linter.unusedVariables false
set_option linter.unusedSimpArgs false
set_option maxRecDepth 8000
namespace Go.Proofs.YtcoengihaobddaaGreatDoor
namespace prog
open Go.ChangeShapes Go.WideShapes Go.ChangeAt Go.RowKit disk ref
open Go.MuLone
open keys (zg zd zq zl zh)
structure Rest (D:Dk) (n:Nat) (e:En) (root':Nat) (C1 C2:Ck) (m1 m2:List UInt8) (ps:List zv):Prop where
 cln:ZO D C1 m1
 few:C1.ws.length<=100
 lt:root'<65536
 chain:xE (λj=>C1.look D (j:Nat)) ps
 nodup:(ps.map zv.at_).Nodup
 head:jf ps=e.at_
 three:ps.length<=3
 range:∀q∈ps,21<=q.at_/\q.at_<1000
 free:xd (ps.map zv.at_) (C1,m1)=(C2,m2)
 full:(C2.put 1 (zo (zx root' n))).full=false
 fits:(C2.put 1 (zo (zx root' n))).ws.length<=18
 keys:∀k∈(C2.put 1 (zo (zx root' n))).keys,k<D.bs.length
def Ww(D:Dk)(n:Nat)(e:En)(root':Nat)(C1 C2:Ck)(m1 m2:List UInt8)(ps:List zv)(v:List Value)(ok:Bool):Prop:=(ok=false/\v=qI)\/(ok=true/\v=qE e/\Rest D n e root' C1 C2 m1 m2 ps)
def WH(w w':World)(bd:Nat)(S:Nat->Prop)(D:Dk)(n root':Nat)(C2:Ck)(ok:Bool)(x:Ending):Prop:=∃kk:Int,0<=kk/\kk<=40/\
 ((ok=false/\x=.returned (.int .i64 5)/\yq w w' bd S {D with reads:=D.reads+kk })\/(ok=true/\x=.returned (.int .i64 0)/\yq w w' bd S {D with bs:=gX D.bs (C2.put 1 (zo (zx root' n))).ws,reads:=D.reads+kk }))
def Wg(w w':World)(bs bd:Nat)(k:Int)(S:Nat->Prop)(D:Dk)(n root':Nat)(C2:Ck)(ok:Bool)(x:Ending):Prop:=∃kk:Int,0<=kk/\kk<=40/\
 ((ok=false/\x=.returned (.int .i64 5)/\yq w w' bd S {D with reads:=D.reads+kk })\/(ok=true/\∃c,x=.returned (.int .i64 c)/\Z5 w w' bs bd k S (qp {D with reads:=D.reads+kk} (C2.put 1 (zo (zx root' n))).ws) c))
theorem ZO.reads{D:Dk}{C:Ck}{m:List UInt8}(h:ZO D C m)(r:Int):ZO {D with reads:=r} C m:=⟨by rw [zH];exact h.map,h.full,h.nodup⟩
theorem bf(w:World)(bs bd:Nat)(S:Nat->Prop)(D:Dk)(k:Int)(Q:zt w bs k (some bd))(F:ze w bd S D)(aH:¬S bs)(az:0<=D.reads)(bc:D.reads<=4611686018427350000)(ad:D.ps=[])(ah:zs D.fuse)(bj:64<=D.bs.length)(bo:D.bs.length<=1000)
 (f n:Nat) (aw:yi (D.look 1) f n) (bk:n<4611686018427387904) (p:Pl) (e:En) (a:Nat) (P m:Ck) (al aD:List UInt8) (ps:List zv) (v:List Value) (ak:Bool) (y:kJ (w.heap.size+1) bd S (λj=>j=w.heap.size+1) D bA f p a v ak P) (l:Ww D n e a P m al aD ps v ak):
 Calls Tryz.prog 53 #[.pointer (some ⟨bs,0,none⟩),.agg #[.string p.key,.int .i64 p.num]] w λao w'=>Wg w w' bs bd k S D n a m ak ao:=by
 have R:Hid (ze w bd S D):=F;have aU:=Q.c2;have bg:=F.lt bd F.bdS;have Z:Hid (∀j,S j->j<w.heap.size):=F.lt;have hbs:=Q.lt;change Hid _ at Q aw y l ad ah;clear F;have aJ:Hid (Kept (λ_=>False) w (w.alloc (.cells #[.string p.key,.int .i64 p.num] 107))):=Kept.alloc _ _ _;have aA:Hid ((w.alloc (.cells #[.string p.key,.int .i64 p.num] 107)).heap[w.heap.size]? =some (.cells #[.string p.key,.int .i64 p.num] 107 (0,0))):=heap_alloc_new w _;have aN:(w.alloc (.cells #[.string p.key,.int .i64 p.num] 107)).heap.size=w.heap.size+1:=by simp
 go_enter Tryz.func53,Tryz.ntmps53;go_wp2_with fail;generalize (w.alloc (.cells #[.string p.key,.int .i64 p.num] 107))=bl at*;refine(Qi bl bd (by omega)).mono ?_;rintro ao G ⟨rfl,s,I⟩;rw [aN] at s ⊢;have U:Hid (Kept (λ_=>False) w G):=aJ.trans I iL;have ai:Hid (G.heap[w.heap.size]? =_):=(I.block _ (by omega) id).trans aA.out;have Y:Hid (Cw G (w.heap.size+1) bd S (λj=>j=w.heap.size+1) D bA):=⟨R.kept U nF,s,λj b bm=>by have:=Z.out j b;omega⟩;clear s I aU;go_wp2_with fail;refine(Qq G (w.heap.size+1) bd S _ D bA Y az (by omega) f n (by rw [y7];exact aw)).mono ?_;rintro ao d ⟨rfl,⟨k2,a7,aW,N⟩,z⟩;have bb:=z.size;have a8:w.heap.size+1<G.heap.size:=Y.chg.lt _ rfl;have O:Hid (d.heap[w.heap.size]? =_):=(z.block _ (by omega) (by omega)).trans ai.out;have aY:d.cell? ⟨w.heap.size,0,none⟩=some (.string p.key):=cR O.out rfl;have a1:d.cell? ⟨w.heap.size,1,none⟩=some (.int .i64 p.num):=cR O.out rfl;have be:w.heap.size<d.heap.size:=by omega
 change Hid _ at N z;go_wp2_with fail;have aL:Hid ((d.alloc (.cells #[.int .i64 (f:Int),.int .i64 (n:Int)] 145)).heap[d.heap.size]? =some (.cells #[.int .i64 (f:Int),.int .i64 (n:Int)] 145 (0,0))):=heap_alloc_new d _;have T:Hid (Kept (λ_=>False) d (d.alloc (.cells #[.int .i64 (f:Int),.int .i64 (n:Int)] 145))):=Kept.alloc _ _ _;have bh:(d.alloc (.cells #[.int .i64 (f:Int),.int .i64 (n:Int)] 145)).heap.size=d.heap.size+1:=by simp
 generalize (d.alloc (.cells #[.int .i64 (f:Int),.int .i64 (n:Int)] 145))=aj at*;refine(y.go aj (D.reads+k2) (by omega) (by omega) (N.kept0 T)).mono ?_;rintro ao r ⟨rfl,⟨i,ay,aS,a2,J,B⟩,A⟩;have bi:=A.size;have aB:Hid (r.heap[d.heap.size]? =_):=(A.block _ (by omega) (by omega)).trans aL.out;have C:Hid _:=(((U.mono fE).trans z iL).trans T fE).trans A (λj b=>b.imp id (λh=>by omega));change Hid _ at J B A;clear aY a1;rcases l.out with⟨rfl,rfl⟩|⟨rfl,rfl,aK⟩
 .unfold qI;go_wp2;have aM:=Kept.alloc (λ_=>False) r (.cells #[.string ⟨#[]⟩,.int .i64 0,.bool false,.int .i64 0,.int .i64 0] 109);refine bodyPost_ret (results_tmp rfl _ _ _) rfl ⟨k2+i,by omega,by omega,.inl ⟨rfl,rfl,⟨⟨S,?_,λ_ h=>.inl h⟩,(C.trans aM fE).mono (λj b=>by rw [show j=bd from b];exact R.bdS)⟩⟩⟩;rw [<-eG];exact J.disk.kept aM nF
 .have g:Hid _:=aK;clear aK l;unfold qE;go_wp2_with fail;have E:Hid (Kept (λ_=>False) r (r.alloc (.cells #[.string e.pl.key,.int .i64 e.pl.num,.bool e.mark,.int .i64 (e.size:Int),.int .i64 (e.at_:Int)] 109))):=Kept.alloc _ _ _;have ba:(r.alloc (.cells #[.string e.pl.key,.int .i64 e.pl.num,.bool e.mark,.int .i64 (e.size:Int),.int .i64 (e.at_:Int)] 109)).heap.size=r.heap.size+1:=by simp
  generalize (r.alloc (.cells #[.string e.pl.key,.int .i64 e.pl.num,.bool e.mark,.int .i64 (e.size:Int),.int .i64 (e.at_:Int)] 109))=a5 at*;have a9:=g.few;refine(Uw a5 (w.heap.size+1) bd S ay {D with reads:=D.reads+k2+i} P (J.kept0 E) al (g.cln.reads _) (by show 0<=D.reads+k2+i;omega) (by show D.reads+k2+i<=_;omega) ps (g.chain.congr (λq _=>zH _ _ _ _)) g.nodup g.three g.range e.at_ g.head (by omega) m aD g.free).mono ?_;rintro ao o ⟨rfl,⟨u,aC,aQ,aZ,ag,ae⟩,L⟩;have af:Hid (∀j,aC j->j=w.heap.size+1\/aj.heap.size<=j):=λj b=>(ae j b).elim (B j) (λh=>.inr (by omega))
  have an:Hid (∀j,w.heap.size<=j->j<aj.heap.size->j≠w.heap.size+1->¬(j=bd\/ay j)):=λj aE au aV aX=>by
   rcases aX with h|h;.omega
   .rcases B j h with h|h<;>omega
  have H:Hid (o.heap[d.heap.size]? =_):=(L.block _ (by omega) (an _ (by omega) (by omega) (by omega))).trans ((E.block _ (by omega) id).trans aB)
  have aq:Hid _:=(C.trans E fE).trans L (λj b=>by
   rcases b with h|h;.exact .inl h
   .rcases B j h with h|h;.exact .inr (by omega)
    .exact .inr (by omega))
  change Hid _ at ag;clear ae L;have a6:o.cell? ⟨d.heap.size,0,none⟩=some (.int .i64 (f:Int)):=cR H.out rfl;have a3:o.cell? ⟨d.heap.size,1,none⟩=some (.int .i64 (n:Int)):=cR H.out rfl;have aR:=aa o d.heap.size 0 _ _ H.out;go_wp2_with fail;have X:Hid (Kept (λj=>j=d.heap.size) o (o.setCell ⟨d.heap.size,0,none⟩ (.int .i64 (a:Int)))):=Kept.setCell (S:=λj=>j=d.heap.size) o ⟨d.heap.size,0,none⟩ _ rfl;generalize (o.setCell ⟨d.heap.size,0,none⟩ (.int .i64 (a:Int)))=aP at*
  have ax:Hid _:=ag.kept X (λj b aO=>by have:=Z.out j b;omega) (λj b aO=>by
   rcases af j b with h|h<;>omega)
  have ar:Hid _:=aq.trans X (λj b=>.inr (by omega));have K:=(vF (ps.map zv.at_) P al g.cln (λj b=>by obtain⟨q,ap,rfl⟩:=av.1 b;exact g.range q ap)).2.2;rw [g.free,eF] at K;have aV:=g.three;clear a6 a3 aR;refine(gC aP (w.heap.size+1) bd S aC _ m ax a n g.lt (by omega) (by simp only at K;omega)).mono ?_;rintro ao am ⟨rfl,⟨a0,ac,aF⟩,V⟩;have M:Hid ((m.put 1 (zo (zx a n))).full=false/\(m.put 1 (zo (zx a n))).ws.length<=18/\∀k∈(m.put 1 (zo (zx a n))).keys,k<D.bs.length):=⟨g.full,g.fits,g.keys⟩;generalize ab:m.put 1 (zo (zx a n))=aI at*
  have t:Hid _:=ar.trans V (λj b=>by
   rcases af j b with h|h;.exact .inr (by omega)
   .exact .inr (by omega))
  change Hid _ at ab ac;clear aF V K
  have aG:Hid (Calls Tryz.prog 78 #[.pointer (some ⟨bs,0,none⟩),.pointer (some ⟨w.heap.size+1,0,none⟩)] am λe w'=>∃c,e=.returned (.int .i64 c)/\Z5 am w' bs bd k S (qp {D with reads:=D.reads+k2+i+u} aI.ws) c):=
   Ze am bs (w.heap.size+1) bd k S a0 {D with reads:=D.reads+k2+i+u} aI ac (Q.kept t (λe=>aH (by rw [show bs=bd from e];exact R.bdS))) aH (by have:=M.2.1;rw [M.1,Bool.false_or,decide_eq_false_iff_not];omega) (λq ap=>by have:=M.2.2 q.1 (av.2 ⟨q,ap,rfl⟩);omega) ah (by show D.ps.length<=_;rw [ad.out];simp)
  go_wp2_with fail;refine aG.mono ?_;rintro ao bn ⟨aT,rfl,W⟩;change Hid _ at W;go_wp2;refine bodyPost_ret (results_tmp rfl _ _ _) rfl ⟨k2+i+u,by omega,by omega,.inr ⟨rfl,aT,rfl,?_⟩⟩;have x:=W.out;rw [ab.out,show ({D with reads:=D.reads+(k2+i+u)}:Dk)={D with reads:=D.reads+k2+i+u} by rw [eG k2 i u,eG (D.reads+k2) i u,eG D.reads k2]];exact⟨x.code,x.sto,by obtain⟨a4,aE,au⟩:=x.disk;exact⟨a4,aE,λj b=>(au j b).imp id (λh=>by have:=t.size;omega)⟩,(t.mono (λj b=>.inl (by rw [show j=bd from b];exact R.bdS))).trans x.kept iL⟩
end prog
end Go.Proofs.YtcoengihaobddaaGreatDoor

/- Part 5 of 50 of a proof: Tree8, Chg5, Chg6, Tree9, Ins1, Disk6 -/
import Derived.Test.YtcoengihaobddaaGreatDoorJe04
import Derived.Lib.Overlaps
import Derived.Lib.AppendZerosOnto
set_option maxHeartbeats 8000000
set_option linter.unusedVariables false
set_option linter.unusedSimpArgs false
set_option maxRecDepth 8000
namespace Go.Proofs.YtcoengihaobddaaGreatDoor
namespace prog
open Go.ChangeShapes Go.WideShapes Go.ChangeAt Go.RowKit disk ref
open keys (zg zd zq zl)
variable {w:World}{P:Nat->Prop}{es:List En}
theorem cD(w:World)(b:Nat)(t:TypeId)(l:List UInt8)(h:xh w b t l)(k c cap:Nat)(j:k=4\/k=5)(d:c+zm k<=l.length)(a:zm k<=cap)(e:En)(f:e.Ok)(g:(l.drop c).take 8=List.replicate 8 0):
 Calls Tryz.prog 193 #[.int .u8 (k:Int),.slice (some ⟨b,c,none⟩) (zm k) cap,.agg #[.string e.pl.key,.int .i64 e.pl.num,.bool e.mark,.int .i64 (e.size:Int),.int .i64 (e.at_:Int)]] w λr w'=>r=.returned (.tuple #[])/\xh w' b t (qS l c (kV k e))/\Kept (λi=>i=b) w w':=by
 rcases j with rfl|rfl;.exact fd w b t l h c cap d a e f g
 .exact bz w b t l h c cap d a e f g
theorem Xb(k:Nat)(es:List En)(i:Nat)(a:i<es.length):(zc k (es.take i)).push (kV k es[i])=zc k (es.take (i+1)):=by
 unfold zc Pg.push;rw [ar a,eh];rfl
theorem JO{p:Pg}(h:p.Ok)(d:(p.items.length+1)*zm p.kind<=124)(e:p.items.length+1<=124)(a:8<=zm p.kind):(((p.grown 1).bytes.drop (4+p.items.length*zm p.kind)).take 8)=List.replicate 8 0:=by
 have i:=h.grown 1 d e;have j:p.items.length<(p.grown 1).items.length:=by rw [Pg.grown_len];omega
 have c:=i.item p.items.length j;have f:(p.grown 1).items[p.items.length]=List.replicate (zm p.kind) 0:=by simp [Pg.grown]
 have g:(p.grown 1).kind=p.kind:=rfl;rw [f,g] at c;have b:=et (List.take 8) c;rw [iJ,eE a,List.take_replicate,eE a] at b;exact b
theorem ql.below{a:Option Addr}(h:ql w P a es):ql w (λj=>P j/\j<w.heap.size) a es:=
 ⟨h.at_.imp id (λ⟨g,f,e,c,b,d⟩=>⟨g,f,e,⟨c,b⟩,b,d⟩),h.few⟩
section
attribute [local go_sem ↓] kh
theorem Gq(w:World)(bc bd:Nat)(S T:Nat->Prop)(D:Dk)(C:Ck)(h:Cw w bc bd S T D C)(P:Nat->Prop)(a:Option Addr)(cap:Nat)(k:Nat)(O:k=4\/k=5)(es:List En)(aK:ql w P a es)(ad:∀e∈es,e.Ok)(aT:es.length<=6)(H:Nat)(ap:C.ws.length<1000):
 Calls Tryz.prog 173 #[.agg #[.int .u8 (k:Int),.slice a es.length cap],.pointer (some ⟨bc,0,none⟩),.int .i64 H] w λr w'=>r=.returned (.tuple #[])/\(∃aF,Cw w' bc bd S aF D (C.put H (zo (zc k es)))/\∀j,aF j->T j\/w.heap.size<=j)/\Kept T w w':=by
 obtain⟨V,ac,bq⟩:∃V:List Value,V=z9/\∀w,(zeroValue 154).run Tryz.prog w=.ok (.agg V.toArray) w:=⟨z9,rfl,qa Tryz.infoPage⟩;have aL:Hid (zW V):=by rw [ac];exact zI
 clear ac;have ba:Hid _:=qc Tryz.infoPage;have an:Hid _:=h;have R:k<=6:=by rcases O with rfl|rfl<;>omega
 have Q:Hid _:=yv (Pg.new_ok k R);have aA:Hid (Kept (λ_=>False) w (w.alloc (.cells #[.int .u8 (k:Int),.slice a es.length cap] 209))):=Kept.alloc _ _ _;have Z:8<=zm k/\zm k<=20:=by rcases O with rfl|rfl<;>decide
 change Hid _ at aK;clear h;go_enter Tryz.func173,Tryz.ntmps173
 go_wp2_with (first
  |(go_at_call 131;refine(jU _ k R).mono ?_;rintro r d ⟨rfl,N⟩;have q:d.heap[w.heap.size]? =_:=(N.block w.heap.size (by simp) (λu=>u)).trans (heap_alloc_new w _);have bm:d.cell? ⟨w.heap.size,1,none⟩=some (.slice a es.length cap):=(cR q rfl);have aD:=(lT q);change Hid _ at N q)
  |(show wpList _ _ _ ({dst:=none,op:=.store _ (.tmp 6) (.tmp 11),type:=_,pos:=_,after:=_,guard:=_}::_) _ _;refine zi rfl 154 (.tmp 6) (.tmp 11) rfl _ _ (zo (Pg.new k)) (by simp) rfl rfl (by rw [Q.1];exact ba) (by rw [aw,aL.1,Q.1]) Q.2 ?_))
 have aC:Hid (yd (d.alloc (.cells (zo (Pg.new k)).toArray 154)) d.heap.size (zc k (es.take 0))):=⟨⟨heap_alloc_new d _⟩,Pg.new_ok k R⟩;have I:Hid (Kept (λ_=>False) w (d.alloc (.cells (zo (Pg.new k)).toArray 154))):=(aA.trans N iL).trans (Kept.alloc _ _ _) iL;have ao:Hid ((d.alloc (.cells (zo (Pg.new k)).toArray 154)).heap[w.heap.size]? =some (.cells #[.int .u8 (k:Int),.slice a es.length cap] 209 (0,0))):=((Kept.alloc (λ_=>False) d _).block w.heap.size aD (λu=>u)).trans q.out;have bi:(d.alloc (.cells (zo (Pg.new k)).toArray 154)).heap.size=d.heap.size+1:=by simp
 generalize (d.alloc (.cells (zo (Pg.new k)).toArray 154))=be at*;go_loopw [15] (λt wr=>∃(i:Nat),i<=es.length/\t=.int .i64 i/\Kept (λj=>j=d.heap.size) be wr/\yd wr d.heap.size (zc k (es.take i))) (λt _=>es.length-(intOf t).toNat)
 case atStart=>exact⟨0,ai _,rfl,Kept.refl _ _,aC⟩
 case round=>
  obtain⟨i,bs,rfl,f,v⟩:=hrel;have c:(zc k (es.take i)).items.length=i:=by simp [zc];omega
  have z:=(f.block w.heap.size (by omega) (by omega)).trans ao.out;have aH:wr.cell? ⟨w.heap.size,0,none⟩=some (.int .u8 (k:Int)):=cR z rfl;have aB:=(lT z);have bb:=v.bs.lt;have al:Hid _:=(aK.below.kept I nF).kept f (λj y aj=>by omega);change Hid _ at f v z;by_cases M:i<es.length
  .obtain⟨g,bA,rfl⟩:=al.base (by omega);obtain⟨bu,bx,br,bz,bt,bn,bh⟩:=al.cells i M;have af:Hid es[i].Ok:=ad _ (ag M);have aI:Hid _:=Xb k es i M;generalize es[i]=e at*;have ax:(i:Int)<(es.length:Int):=by omega
   go_wp2;have W:(wr.alloc (.cells (qE e).toArray 109))=(wr.alloc (.cells #[.string e.pl.key,.int .i64 e.pl.num,.bool e.mark,.int .i64 (e.size:Int),.int .i64 (e.at_:Int)] 109)):=rfl;have m:Hid ((wr.alloc (.cells (qE e).toArray 109)).heap[wr.heap.size]? =some (.cells (qE e).toArray 109 (0,0))):=heap_alloc_new wr _;have B:Hid (Kept (λ_=>False) wr (wr.alloc (.cells (qE e).toArray 109))):=Kept.alloc _ _ _;have aQ:(wr.alloc (.cells (qE e).toArray 109)).heap.size=wr.heap.size+1:=by simp
   rw [W] at m B aQ;clear W;generalize (wr.alloc (.cells #[.string e.pl.key,.int .i64 e.pl.num,.bool e.mark,.int .i64 (e.size:Int),.int .i64 (e.at_:Int)] 109))=n at*;have bg:n.cell? ⟨wr.heap.size,0,none⟩=some (.string e.pl.key):=cR m.out rfl;have bj:n.cell? ⟨wr.heap.size,1,none⟩=some (.int .i64 e.pl.num):=cR m.out rfl;have bp:n.cell? ⟨wr.heap.size,2,none⟩=some (.bool e.mark):=cR m.out rfl;have bo:n.cell? ⟨wr.heap.size,3,none⟩=some (.int .i64 (e.size:Int)):=cR m.out rfl;have bk:n.cell? ⟨wr.heap.size,4,none⟩=some (.int .i64 (e.at_:Int)):=cR m.out rfl;have au:=(B.cell (a:=⟨w.heap.size,0,none⟩) aB (λu=>u)).trans aH;have aO:Hid _:=(v.kept B (λu=>u)).kept (Kept.drew (λ_=>False) n) (λu=>u)
   have s:(i+1)*zm k<=124:=by
    have a7:i+1<=6:=by omega
    have:=Nat.mul_le_mul a7 Z.2;omega
   have ar:Hid (v6 d.heap.size (zc k (es.take i)).kind (zc k (es.take i)).items.length 1=.slice (some ⟨d.heap.size,4+i*zm k,none⟩) (zm k) (124-i*zm k)):=by show v6 _ _ _ _=_;rw [c];unfold v6;rw [lf];rfl
   have K:Hid _:=v.ok;have J:Hid _:=JO (p:=zc k (es.take i)) K (by rw [c];exact s) (by rw [c];omega) Z.1;have aP:Hid _:=YQ af O;have A:Hid _:=K.push_over (kV k e) aP (by rw [c];exact s);have aq:Hid (zc k (es.take (i+1))).Ok:=Qc O (λbv aW=>ad bv (aJ aW)) (by rw [ay];omega);have aV:(i+1)*zm k=i*zm k+zm k:=Nat.succ_mul ..;rw [aI.out] at A;rw [c] at J A;have L:(zc k (es.take i)).kind=k:=rfl;rw [L] at J A;have az:Hid _:=(K.grown 1 (by rw [c];exact s) (by rw [c];omega)).len;generalize bl:zc k (es.take i)=p at*
   go_region_held3 (λw'=>w'.cell? ⟨w.heap.size,0,none⟩=some (.int .u8 (k:Int))/\w'.cell? ⟨wr.heap.size,0,none⟩=some (.string e.pl.key)/\w'.cell? ⟨wr.heap.size,1,none⟩=some (.int .i64 e.pl.num)/\w'.cell? ⟨wr.heap.size,2,none⟩=some (.bool e.mark)/\w'.cell? ⟨wr.heap.size,3,none⟩=some (.int .i64 (e.size:Int))/\w'.cell? ⟨wr.heap.size,4,none⟩=some (.int .i64 (e.at_:Int))) (go_keep) (first
    |(go_at_call 133;refine(v7 _ _ _ (by exact aO) 1 (by rw [c,L];exact s) (by rw [c];omega) (by rw [L];omega)).mono ?_;rintro r G ⟨ak,Y,E⟩;rw [ar.out] at ak;subst ak;have am:=(E.cell (a:=⟨w.heap.size,0,none⟩) (show w.heap.size<n.heap.size by omega) (by show ¬w.heap.size=d.heap.size;omega)).trans au;have l:=(E.block wr.heap.size (show wr.heap.size<n.heap.size by omega) (by omega)).trans m.out;have a2:G.cell? ⟨wr.heap.size,0,none⟩=some (.string e.pl.key):=(cR l rfl);have a1:G.cell? ⟨wr.heap.size,1,none⟩=some (.int .i64 e.pl.num):=(cR l rfl);have a0:G.cell? ⟨wr.heap.size,2,none⟩=some (.bool e.mark):=(cR l rfl);have aZ:G.cell? ⟨wr.heap.size,3,none⟩=some (.int .i64 (e.size:Int)):=(cR l rfl);have aY:G.cell? ⟨wr.heap.size,4,none⟩=some (.int .i64 (e.at_:Int)):=(cR l rfl);have aM:=(lT l);change Hid _ at Y E l)
    |(go_at_call 193;refine(cD _ _ _ _ (by exact Y.bs) k (4+i*zm k) (124-i*zm k) O (by rw [az.out];omega) (by omega) e af (by exact J)).mono ?_;rintro r x ⟨rfl,U,F⟩;rw [A.out] at U;have aX:=(F.cell (a:=⟨w.heap.size,0,none⟩) (show w.heap.size<G.heap.size by omega) (by show ¬w.heap.size=d.heap.size;omega)).trans am;have o:=(F.block wr.heap.size aM (by omega)).trans l.out;have aR:x.cell? ⟨wr.heap.size,0,none⟩=some (.string e.pl.key):=(cR o rfl);have a9:x.cell? ⟨wr.heap.size,1,none⟩=some (.int .i64 e.pl.num):=(cR o rfl);have a6:x.cell? ⟨wr.heap.size,2,none⟩=some (.bool e.mark):=(cR o rfl);have aS:x.cell? ⟨wr.heap.size,3,none⟩=some (.int .i64 (e.size:Int)):=(cR o rfl);have aU:x.cell? ⟨wr.heap.size,4,none⟩=some (.int .i64 (e.at_:Int)):=(cR o rfl);change Hid _ at U F;clear o))
   have aG:Hid (Kept (λj=>j=d.heap.size) be x):=((f.trans (B) fE).trans (Kept.trans (b:=n.drew) (Kept.drew _ n) E iL) iL).trans F iL;have av:Hid (yd x d.heap.size (zc k (es.take (i+1)))):=⟨U,aq⟩;go_wp2;go_roundw;.exact⟨i+1,by omega,rfl,aG,av⟩
   .show es.length-((i:Int)+1).toNat<es.length-(i:Int).toNat;omega
  .have aE:i=es.length:=by omega
   subst aE;have ax:¬(es.length:Int)<(es.length:Int):=by omega
   have ae:Hid (yd wr d.heap.size (zc k es)):=by have:=v.out;rw [eX] at this;exact this
   have aa:Hid _:=yv ae.ok;have bf:(fe (.pointer (some ⟨d.heap.size,0,none⟩))).run Tryz.prog wr=.ok (.agg (zo (zc k es)).toArray) wr:=jw _ _ _ _ (zU ae.bs.at_) aa.1
   have aN:Hid (Cw wr bc bd S T D C):=by have a8:=an.disk.lt;have a3:=an.chg.lt;exact(an.kept0 I).kept f (λj y aj=>by have:=a8 j y;omega) (λj y aj=>by have:=a3 j y;omega)
   go_wp2_with (go_at_call 135;refine(kj _ bc bd S T D C aN H _ aa ap).mono ?_;rintro r bw ⟨rfl,⟨a4,ah,ab⟩,X⟩;change Hid _ at ah ab X);go_end0;refine⟨rfl,⟨a4,ah,λj y=>(ab j y).imp id (λh=>by omega)⟩,?_⟩;have a5:Kept T w wr:=(I.mono fE).trans f (λj y=>.inr (by omega));exact a5.trans X iL
end
def dc(r:Nat):Int:=((2^r:Nat):Int)
theorem dd(w:World)(i:Nat)(b:i<=1000000):Calls Tryz.prog 171 #[.int .i64 ((i:Int)+21)] w λe w'=>e=.returned (.tuple #[.int .i64 (i/8:Nat),.int .u8 (dc (i%8))])/\∃n,w'=w.drewN n:=by
 go_enter Tryz.func171,Tryz.ntmps171;go_wp2
 go_region
 go_wp2;go_ret2;have a:=JM i
 have e:((2:Int)^(i%8))%256=dc (i%8):=by
  unfold dc;have:((2:Int)^(i%8))=((2^(i%8):Nat):Int):=by simp
  rw [this];generalize 2^(i%8)=c at*;omega
 exact⟨by rw [<-e];simp,1,rfl⟩
theorem de{r:Nat}{t:TypeId}{b a:List Value}(h:w.heap[r]? =some (.cells b.toArray t (0,0)))(c:a.length=b.length):(w.setCells r 0 a).heap[r]? =some (.cells a.toArray t (0,0)):=by
 rw [qg r t a 0 w _ h (by simp [c])];congr 3;rw [mj,aH,eb (by simp [c]),aM]
structure qP (b:List Value) (m:List UInt8):Prop where
 len:m.length=124
 is:b=zo (zV m)\/(b=zo (Pg.new 0)/\m=vR)
theorem fh(w:World)(bc bd:Nat)(S T:Nat->Prop)(D:Dk)(C:Ck)(h:Cw w bc bd S T D C)(m:List UInt8)(J:qP (C.look D 2) m)(Q:0<=D.reads)(U:D.reads<=4611686018427387904):
 Calls Tryz.prog 170 #[.pointer (some ⟨bc,0,none⟩)] w λe w'=>e=.returned (.agg (zo (zV m)).toArray)/\(∃n:Int,0<=n/\n<=1/\Cw w' bc bd S T {D with reads:=D.reads+n} C)/\Kept (λk=>k=bd) w w':=by
 obtain⟨g,R,ag⟩:∃g:List Value,g=z9/\∀w,(zeroValue 154).run Tryz.prog w=.ok (.agg g.toArray) w:=⟨z9,rfl,qa Tryz.infoPage⟩;have i:Hid (zW g):=by rw [R];exact zI
 clear R;have o:Hid _:=qc Tryz.infoPage;have ab:Hid _:=h;have af:=h.disk.lt bd h.disk.bdS;have ad:Hid _:=J;have b:Hid _:=yv (jG J.len);have z:Hid _:=h.disk.lt;have I:Hid _:=h.chg.lt;clear h;have s:Hid (Kept (λ_=>False) w (w.alloc (.cells g.toArray 154))):=Kept.alloc _ _ _;rcases J.is with K|⟨K,ae⟩
 .have Y:Hid _:=K;clear K J;go_enter Tryz.func170,Tryz.ntmps170
  go_wp2_with (first
   |(go_at_call 192;refine(vu _ bc bd S T D C (ab.kept0 s) 2 (by constructor<;>omega) Q U).mono ?_;rintro e a ⟨rfl,d,c⟩;rw [Y.out];have G:Hid _:=d;have q:Hid _:=c;have O:Hid (a.heap[w.heap.size]? =some (.cells g.toArray 154 (0,0))):=(c.block w.heap.size (by simp) (by omega)).trans (heap_alloc_new w _);clear d c)
   |(show wpList _ _ _ ({dst:=none,op:=.store _ (.tmp 3) (.tmp 5),type:=_,pos:=_,after:=_,guard:=_}::_) _ _;refine zi rfl 154 (.tmp 3) (.tmp 5) rfl _ _ (zo (zV m)) (by simp) rfl rfl (by rw [b.1];exact o) (by rw [aw,i.1,b.1]) b.2 ?_;have M:Hid (yd (a.alloc (.cells (zo (zV m)).toArray 154)) a.heap.size (zV m)):=⟨⟨heap_alloc_new a _⟩,jG ad.len⟩)
   |(go_at_call 144;refine(v5 _ _ _ M).mono ?_;rintro e P ⟨rfl,rfl⟩;have B:(zV m).kind=3:=rfl;rw [B])
   |(show wpList _ _ _ ({dst:=some 11,op:=.load _ _,type:=_,pos:=_,after:=_,guard:=_}::_) _ _;refine wpList_load_mid rfl 154 (.tmp 3) rfl _ _ rfl (zo (zV m)) _ (zU M.bs.at_) xe rfl (by rw [b.1];exact o) ?_;have r:Hid ((a.alloc (.cells (zo (zV m)).toArray 154)).heap[w.heap.size]? =some (.cells g.toArray 154 (0,0))):=((Kept.alloc (λ_=>False) a _).block w.heap.size (lT O) (λW=>W)).trans O)
   |(show wpList _ _ _ ({dst:=none,op:=.store _ (.tmp 2) (.tmp 11),type:=_,pos:=_,after:=_,guard:=_}::_) _ _;refine wpList_store_mid rfl 154 (.tmp 2) (.tmp 11) rfl _ _ _ rfl rfl (by have:=yu r.out;rw [i.1] at this;simpa [b.1] using this) (by rw [aw,b.1];exact o) (all_oneCell_toArray b.2) ?_))
  have N:Kept (λk=>k=bd) w ((a.alloc (.cells (zo (zV m)).toArray 154)).setCells w.heap.size 0 (zo (zV m))):=
   (((s.mono fE).trans q iL).trans (Kept.alloc _ _ _) iL).trans (Kept.setCells (S:=λk=>k=w.heap.size) w.heap.size rfl _ 0 _) (λj l=>.inr (by rw [l];exact aC _))
  have H:=de r (show (zo (zV m)).length=g.length by rw [b.1,i.1]);refine bodyPost_ret (v:=.agg (zo (zV m)).toArray) (results_cell_row Tryz.results170 _ _ w.heap.size 154 _ (0,0) _ rfl H xe rfl (by rw [aw,b.1];exact o)) rfl ⟨rfl,?_,N⟩;obtain⟨n,L,y,d⟩:=G.out;exact⟨n,L,y,(d.kept0 (Kept.alloc _ _ _)).kept (Kept.setCells (S:=λk=>k=w.heap.size) w.heap.size rfl _ 0 _) (λk f e=>by have:=z.out k f;omega) (λk f e=>by have:=I.out k f;omega)⟩
 .have Y:Hid _:=K;subst ae;clear K J;have F:Hid (zW (zo (Pg.new 0))):=yv (Pg.new_ok 0 (by omega));have t:Hid (zW (zo (Pg.new 3))):=yv (Pg.new_ok 3 (by omega));go_enter Tryz.func170,Tryz.ntmps170
  go_wp2_with (first
   |(go_at_call 192;refine(vu _ bc bd S T D C (ab.kept0 s) 2 (by constructor<;>omega) Q U).mono ?_;rintro e a ⟨rfl,d,c⟩;rw [Y.out];have G:Hid _:=d;have q:Hid _:=c;have O:Hid (a.heap[w.heap.size]? =some (.cells g.toArray 154 (0,0))):=(c.block w.heap.size (by simp) (by omega)).trans (heap_alloc_new w _);clear d c)
   |(show wpList _ _ _ ({dst:=none,op:=.store _ (.tmp 3) (.tmp 5),type:=_,pos:=_,after:=_,guard:=_}::_) _ _;refine zi rfl 154 (.tmp 3) (.tmp 5) rfl _ _ (zo (Pg.new 0)) (by simp) rfl rfl (by rw [F.1];exact o) (by rw [aw,i.1,F.1]) F.2 ?_;have M:Hid (yd (a.alloc (.cells (zo (Pg.new 0)).toArray 154)) a.heap.size (Pg.new 0)):=⟨⟨heap_alloc_new a _⟩,Pg.new_ok 0 (by omega)⟩)
   |(go_at_call 144;refine(v5 _ _ _ M).mono ?_;rintro e P ⟨rfl,rfl⟩;have B:(Pg.new 0).kind=0:=rfl;rw [B])
   |(go_at_call 131;refine(jU _ 3 (by omega)).mono ?_;rintro e P ⟨rfl,p⟩;have V:Hid (P.heap[a.heap.size]? =some (.cells (zo (Pg.new 0)).toArray 154 (0,0))):=(M.kept p (λW=>W)).bs.at_;change Hid _ at p)
   |(show wpList _ _ _ ({dst:=none,op:=.store _ (.tmp 3) (.tmp 8),type:=_,pos:=_,after:=_,guard:=_}::_) _ _;refine wpList_store_mid rfl 154 (.tmp 3) (.tmp 8) rfl _ _ _ rfl rfl (by have:=yu V.out;rw [F.1] at this;simpa [t.1] using this) (by rw [aw,t.1];exact o) (all_oneCell_toArray t.2) ?_;have Z:Hid (yd (P.setCells a.heap.size 0 (zo (Pg.new 3))) a.heap.size (Pg.new 3)):=⟨⟨de V (by rw [t.1,F.1])⟩,Pg.new_ok 3 (by omega)⟩)
   |(go_at_call 129;refine(vo _ 3 (by omega)).mono ?_;rintro e x ⟨rfl,rfl⟩;have ac:room 3=124:=rfl;rw [ac])
   |(go_at_call 133;refine(v7 _ _ _ Z 124 (by decide) (by decide) (by decide)).mono ?_;rintro e x ⟨rfl,E,u⟩;rw [VN] at E;have A:Hid _:=u;change Hid _ at E;clear u)
   |(show wpList _ _ _ ({dst:=some 11,op:=.load _ _,type:=_,pos:=_,after:=_,guard:=_}::_) _ _;refine wpList_load_mid rfl 154 (.tmp 3) rfl _ _ rfl (zo (zV vR)) _ (zU E.bs.at_) xe rfl (by rw [b.1];exact o) ?_;have r:Hid (x.heap[w.heap.size]? =some (.cells g.toArray 154 (0,0))):=by {have aa:w.heap.size+1<=a.heap.size:=(by have:=q.size;simpa using this);exact(((((((Kept.alloc (λ_=>False) a _).trans p iL)).mono fE).trans (Kept.setCells (S:=λk=>k=a.heap.size) a.heap.size rfl _ 0 _) (λj l=>.inl (by omega))).trans A (λj l=>.inl (by omega)):Kept (λk=>a.heap.size<=k) a x).block w.heap.size (by omega) (by omega)).trans O })
   |(show wpList _ _ _ ({dst:=none,op:=.store _ (.tmp 2) (.tmp 11),type:=_,pos:=_,after:=_,guard:=_}::_) _ _;refine wpList_store_mid rfl 154 (.tmp 2) (.tmp 11) rfl _ _ _ rfl rfl (by have:=yu r.out;rw [i.1] at this;simpa [b.1] using this) (by rw [aw,b.1];exact o) (all_oneCell_toArray b.2) ?_))
  have aa:w.heap.size+1<=a.heap.size:=by have:=q.size;simpa using this
  have c:Kept (λk=>k=bd) w a:=(s.mono fE).trans q iL;have u:Kept (λk=>k=bd) w x:=((c.trans ((Kept.alloc (λ_=>False) a _).trans p iL) fE).trans (Kept.setCells (S:=λk=>k=a.heap.size) a.heap.size rfl _ 0 _) (λj l=>.inr (by omega))).trans A (λj l=>.inr (by omega));have X:Kept (λk=>a.heap.size<=k) a x:=(((((Kept.alloc (λ_=>False) a _).trans p iL)).mono fE).trans (Kept.setCells (S:=λk=>k=a.heap.size) a.heap.size rfl _ 0 _) (λj l=>.inl (by omega))).trans A (λj l=>.inl (by omega));have N:Kept (λk=>k=bd) w (x.setCells w.heap.size 0 (zo (zV vR))):=u.trans (Kept.setCells (S:=λk=>k=w.heap.size) w.heap.size rfl _ 0 _) (λj l=>.inr (by rw [l];exact aC _));have H:=de r (show (zo (zV vR)).length=g.length by rw [b.1,i.1]);refine bodyPost_ret (v:=.agg (zo (zV vR)).toArray) (results_cell_row Tryz.results170 _ _ w.heap.size 154 _ (0,0) _ rfl H xe rfl (by rw [aw,b.1];exact o)) rfl ⟨rfl,?_,N⟩;obtain⟨n,L,y,d⟩:=G.out;exact⟨n,L,y,(d.kept X (λk f e=>by have:=z.out k f;omega) (λk f e=>by have:=I.out k f;omega)).kept (Kept.setCells (S:=λk=>k=w.heap.size) w.heap.size rfl _ 0 _) (λk f e=>by have:=z.out k f;omega) (λk f e=>by have:=I.out k f;omega)⟩
theorem Gr(a r:Nat)(h:a.testBit r=false):a&&&2^r=0:=by
 apply Nat.eq_of_testBit_eq;intro s;rw [m8,fg,Nat.zero_testBit];by_cases e:r=s;.subst e;simp [h]
 .simp [e]
theorem QT(a r:Nat)(h:a.testBit r=true):¬a&&&2^r=0:=λe=>by
 have:(a&&&2^r).testBit r=true:=by rw [m8,fg,h];simp
 rw [e] at this;simp at this
theorem DR(a r:Nat)(j:a<256)(l:r<8):(bits BinOp.and IntKind.u8 (a:Int) (dc r)==0)= !a.testBit r:=by
 have c:2^r<256:=by have:=lr (show 0<2 by omega) (show r<=7 by omega);omega
 have e:BitVec.ofInt 8 (a:Int)=BitVec.ofNat 8 a:=BitVec.ofInt_natCast ..;have i:BitVec.ofInt 8 (dc r)=BitVec.ofNat 8 (2^r):=BitVec.ofInt_natCast ..
 have g:(BitVec.ofNat 8 a&&&BitVec.ofNat 8 (2^r)).toNat=a&&&2^r:=by
  have h:a%256=a:=by omega
  have f:=mW c;simp only [BitVec.toNat_and,BitVec.toNat_ofNat,show (2:Nat)^8=256 from rfl];rw [h,f]
 have d:bits BinOp.and IntKind.u8 (a:Int) (dc r)=IntKind.u8.wrap ((BitVec.ofInt 8 (a:Int)&&&BitVec.ofInt 8 (dc r)).toNat:Nat):=rfl;have k:a&&&2^r<256:=mM mZ j;rw [d,e,i,g,IntKind.wrap_u8]
 cases b:a.testBit r with
 |false=>rw [Gr a r b];simp
 |true=>
  have:=QT a r b;generalize a&&&2^r=m at*;simp;omega
theorem BN(a r:Nat)(j:a<256)(i:r<8):bits BinOp.or IntKind.u8 (a:Int) (dc r)=((a|||2^r:Nat):Int):=by
 have b:2^r<256:=by have:=lr (show 0<2 by omega) (show r<=7 by omega);omega
 have d:BitVec.ofInt 8 (a:Int)=BitVec.ofNat 8 a:=BitVec.ofInt_natCast ..;have h:BitVec.ofInt 8 (dc r)=BitVec.ofNat 8 (2^r):=BitVec.ofInt_natCast ..
 have f:(BitVec.ofNat 8 a|||BitVec.ofNat 8 (2^r)).toNat=a|||2^r:=by
  have g:a%256=a:=by omega
  have e:=mW b;simp only [BitVec.toNat_or,BitVec.toNat_ofNat,show (2:Nat)^8=256 from rfl];rw [g,e]
 have c:bits BinOp.or IntKind.u8 (a:Int) (dc r)=IntKind.u8.wrap ((BitVec.ofInt 8 (a:Int)|||BitVec.ofInt 8 (dc r)).toNat:Nat):=rfl;rw [c,d,h,f,IntKind.wrap_u8];omega
theorem map_set{b:Nat}{m:List UInt8}(a:m.length=124)(h:yd w b (zV m))(i:Nat)(f:i/8<124)(v:Nat)(d:v<256):yd (w.setCell ⟨b,4+i/8,none⟩ (.int .u8 (v:Int))) b (zV (m.set (i/8) (UInt8.ofNat v))):=by
 have c:=h.bs.set (4+i/8) (UInt8.ofNat v);rw [vZ _ d,kQ a] at c;refine⟨?_,jG (by simp [a])⟩;rw [kQ (by simp [a])]
 have e:([3,124,0,0]++m).set (4+i/8) (UInt8.ofNat v)=[3,124,0,0]++m.set (i/8) (UInt8.ofNat v):=by rw [List.set_append_right _ _ (by simp)];simp
 rw [e] at c;exact c
theorem Xc{b:Nat}{m:List UInt8}(a:m.length=124)(h:yd w b (zV m))(j:Nat)(d:j<124):w.cell? ⟨b,4+j,none⟩=some (.int .u8 ((m.getD j 0).toNat:Int)):=by
 have c:=h.bs.cell (4+j) (by rw [kQ a];simp [a];omega);simp only [kQ a] at c;rw [c,aE,aI (by omega),i9,ip (by simp)];simp
theorem dg(w:World)(bd:Nat)(S:Nat->Prop)(D:Dk)(h:ze w bd S D):
 Calls Tryz.prog 54 #[.pointer (some ⟨bd,0,none⟩)] w λe w'=>e=.returned (.int .i64 D.bs.length)/\w'=w:=by
 obtain⟨ba,pa,bc,pc,h⟩:=h;exact ke w bd S D ba pa bc pc h
theorem qO.setFull{bc bd:Nat}{T:Nat->Prop}{C:Ck}{a:Option Addr}{cap:Nat}(h:qO w bc bd T C a cap):qO (w.setCell ⟨bc,2,none⟩ (.bool true)) bc bd T {C with full:=true} a cap:=by
 refine⟨h.ok,?_,?_,h.own,h.ap,h.few⟩;.rw [heap_setCell_same w bc 2 _ _ _ h.head];rfl
 .exact(Kept.setCell (S:=λk=>k=bc) w ⟨bc,2,none⟩ _ rfl).owns h.row (λk b e=>h.ap (by rw [b,e]))
structure Ws (w w':World) (bc bd:Nat) (S T:Nat->Prop) (D:Dk) (C:Ck) (m:List UInt8) (a:Int) (C':Ck):Prop where
 at_:∃(n:Int) (T':Nat->Prop),0<=n/\n<=1/\Cw w' bc bd S T' {D with reads:=D.reads+n} C'/\∀k,T' k->T k\/w.heap.size<=k
 kept:Kept (λk=>k=bd\/T k) w w'
 is:(∃i:Nat,a=(i:Int)+21/\i+21<D.bs.length/\zX m i=false/\(∀j,j<i->zX m j=true)/\C'=C.put 2 (zo (zV (gI m i))))\/(a=0/\(∀i,i+21<D.bs.length->zX m i=true)/\C'={C with full:=true })
theorem Gs(w:World)(bc bd:Nat)(S T:Nat->Prop)(D:Dk)(C:Ck)(h:Cw w bc bd S T D C)(m:List UInt8)(v:qP (C.look D 2) m)(ah:0<=D.reads)(aj:D.reads<=4611686018427387904)(ac:C.ws.length<1000):
 Calls Tryz.prog 134 #[.pointer (some ⟨bc,0,none⟩)] w λe w'=>∃a az,e=.returned (.int .i64 a)/\Ws w w' bc bd S T D C m a az:=by
 obtain⟨K,O,aK⟩:∃K:List Value,K=z9/\∀w,(zeroValue 154).run Tryz.prog w=.ok (.agg K.toArray) w:=⟨z9,rfl,qa Tryz.infoPage⟩;have ao:Hid (zW K):=by rw [O];exact zI
 clear O;have aq:Hid _:=qc Tryz.infoPage;have ab:Hid _:=h;have ap:=v.len;have z:Hid _:=yv (jG v.len);have ag:Hid _:=h.disk.lt;have ai:Hid _:=h.chg.lt;have aB:=h.disk.ok.few;change Hid _ at v;clear h;go_enter Tryz.func134,Tryz.ntmps134
 go_wp2_with (first
  |(go_at_call 170;refine(fh _ bc bd S T D C ab m v ah aj).mono ?_;rintro e l ⟨rfl,g,s⟩;have U:Hid _:=g;have r:Hid _:=s;clear g s)
  |(show wpList _ _ _ ({dst:=none,op:=.store _ (.tmp 3) (.tmp 9),type:=_,pos:=_,after:=_,guard:=_}::_) _ _;refine zi rfl 154 (.tmp 3) (.tmp 9) rfl _ _ (zo (zV m)) (by simp) rfl rfl (by rw [z.1];exact aq) (by rw [aw,ao.1,z.1]) z.2 ?_;have ae:Hid (yd (l.alloc (.cells (zo (zV m)).toArray 154)) l.heap.size (zV m)):=⟨⟨heap_alloc_new l _⟩,jG v.len⟩)
  |(go_at_call 125;refine(jZ _ _ _ ae).mono ?_;rintro e aM ⟨rfl,ad,rfl⟩))
 have F:Hid (yd ((l.alloc (.cells (zo (zV m)).toArray 154)).drewN ad) l.heap.size (zV m)):=ae.kept (T:=λ_=>False) kD (λZ=>Z);have q:Hid (Kept (λ_=>False) l ((l.alloc (.cells (zo (zV m)).toArray 154)).drewN ad)):=(Kept.alloc _ _ _).trans (S':=λ_=>False) kD iL;obtain⟨aa,V,N,g⟩:=U.out;change Hid _ at g;clear U;generalize (l.alloc (.cells (zo (zV m)).toArray 154)).drewN ad=x at*;generalize aF:l.heap.size=d at*;have H:jM d (zV m).kind (zV m).items.length=.slice (some ⟨d,4,none⟩) 124 124:=by simp [jM,zV,zm,ap]
 rw [H];clear H ae;go_loopw [5] (λt wr=>∃(i n:Nat),i<=979/\(i=0\/i+21<=D.bs.length)/\t=.int .i64 ((i:Int)+21)/\wr=x.drewN n/\∀j,j<i->zX m j=true) (λt _=>1000-(intOf t).toNat)
 case atStart=>exact⟨0,0,by omega,.inl rfl,rfl,rfl,λ_ h=>by omega⟩
 case round=>
  obtain⟨i,n,aL,aE,rfl,rfl,o⟩:=hrel;change Hid _ at o;have y:Kept (λ_=>False) x (x.drewN n):=kD;have u:Hid _:=(g.kept0 q).kept0 y;have aC:x.cell? ⟨bc,0,none⟩=some (.pointer (some ⟨bd,0,none⟩)):=by obtain⟨a,cap,ay⟩:=u.chg;exact ay.c0
  change Hid _ at y;by_cases an:i+21<D.bs.length
  .have ar:=Xc v.len F (i/8) (by omega);have aD:=F.bs.fz (4+i/8);have G:=DR (m.getD (i/8) 0).toNat (i%8) (m.getD (i/8) 0).toNat_lt (by omega);have am:Hid (zX m i=(m.getD (i/8) 0).toNat.testBit (i%8)):=rfl;have au:=(m.getD (i/8) 0).toNat_lt;have Y:Hid (gI m i=m.set (i/8) (UInt8.ofNat ((m.getD (i/8) 0).toNat|||2^(i%8)))):=rfl;have aH:=BN (m.getD (i/8) 0).toNat (i%8) (m.getD (i/8) 0).toNat_lt (by omega);have aA:Hid _:=Nat.or_lt_two_pow (n:=8) au (JM i);generalize (m.getD (i/8) 0).toNat=af at*
   cases J:zX m i with
   |true=>
    have A:af.testBit (i%8)=true:=am.symm.trans J;rw [A] at G;have E:Hid _:=J
    go_wp2_with (first
     |(go_at_call 54;refine(dg _ bd S _ u.disk).mono ?_;rintro e L ⟨rfl,rfl⟩)
     |(go_at_call 171;refine(dd _ i (by omega)).mono ?_;rintro e L ⟨rfl,p,rfl⟩))
    go_roundw
    case rel=>exact⟨i+1,n+p,by omega,by omega,by go_num,rfl,λj av=>by
     by_cases e:j=i;.subst e;exact E.out
     .exact o j (by omega)⟩
    case measure=>simp [intOf];omega
   |false=>
    have A:af.testBit (i%8)=false:=am.symm.trans J;rw [A] at G;have E:Hid _:=J
    go_wp2_with (first
     |(go_at_call 54;refine(dg _ bd S _ u.disk).mono ?_;rintro e L ⟨rfl,rfl⟩)
     |(go_at_call 171;refine(dd _ i (by omega)).mono ?_;rintro e L ⟨rfl,p,rfl⟩)
     |(show wpList _ _ _ ({dst:=some 40,op:=.load _ _,type:=_,pos:=_,after:=_,guard:=_}::_) _ _;have ak:Hid (yd ((x.drewN (n+p)).setCell ⟨d,4+i/8,none⟩ (.int .u8 ((af|||2^(i%8):Nat):Int))) d (zV (gI m i))):=(by {have M:yd (x.drewN (n+p)) d (zV m):=F.kept (T:=λ_=>False) kD (λZ=>Z);have W:=map_set v.len M i (by omega) (af|||2^(i%8)) aA.out;rw [<-Y.out] at W;exact W });have P:Hid (zW (zo (zV (gI m i)))):=yv (jG (by rw [Y9];exact v.len));refine wpList_load_mid rfl 154 (.tmp 3) rfl _ _ rfl (zo (zV (gI m i))) _ (zU ak.bs.at_) xe rfl (by rw [P.1];exact aq) ?_)
     |(go_at_call 135;refine(kj _ bc bd S T {D with reads:=D.reads+aa} C ((g.kept0 q).kept (X:=λk=>k=d) (w':=(x.drewN (n+p)).setCell ⟨d,4+i/8,none⟩ (.int .u8 ((af|||2^(i%8):Nat):Int))) (Kept.trans (b:=x.drewN (n+p)) kD (Kept.setCell (S:=λk=>k=d) _ _ _ rfl) iL) (λk c e=>by have:=ag.out k c;have:=r.size;omega) (λk c e=>by have:=ai.out k c;have:=r.size;omega)) 2 (zo (zV (gI m i))) P ac).mono ?_;rintro e aJ ⟨rfl,⟨ax,B,R⟩,Q⟩;change Hid _ at B R Q))
    go_ret
    have s:Kept (λk=>k=bd\/T k) w ((x.drewN (n+p)).setCell ⟨d,4+i/8,none⟩ (.int .u8 ((af|||2^(i%8):Nat):Int))):=
     ((r.mono iL).trans q fE).trans (S':=λk=>k=d) (Kept.trans (b:=x.drewN (n+p)) kD (Kept.setCell (S:=λk=>k=d) _ _ _ rfl) iL) (λk c=>.inr (by have:=r.size;omega))
    refine⟨_,_,rfl,⟨aa,ax,V,N,B,λk c=>?_⟩,s.trans Q (λk c=>.inl (.inr c)),.inl ⟨i,rfl,an,E,o,rfl⟩⟩;rcases R k c with M|M;.exact .inl M
    .right;have W:=s.size;omega
  .have f:=(g.kept0 q).chg;obtain⟨a,cap,f⟩:=f;have aG:=f.c2;have aI:=f.fz 2;change Hid _ at f;go_wp2_with (go_at_call 54;refine(dg _ bd S _ u.disk).mono ?_;rintro e L ⟨rfl,rfl⟩);go_ret;have al:Kept (λk=>k=bc) x ((x.drewN n).setCell ⟨bc,2,none⟩ (.bool true)):=Kept.trans (b:=x.drewN n) kD (Kept.setCell (S:=λk=>k=bc) _ _ _ rfl) iL;have I:=f.bcT;refine⟨_,_,rfl,⟨aa,T,V,N,⟨u.disk.kept (Kept.setCell (S:=λk=>k=bc) _ ⟨bc,2,none⟩ _ rfl) (λk c e=>ab.apart k c (by rw [e];exact I)),⟨a,cap,(f.kept y nF).setFull⟩,ab.apart⟩,λk c=>.inl c⟩,?_,.inr ⟨rfl,λj av=>?_,rfl⟩⟩;.exact((r.mono iL).trans q fE).trans al (λk c=>.inl (.inr (by rw [c];exact I)))
   .exact o j (by omega)
theorem ql.take{g i:Nat}(h:ql w P (some ⟨g,i,none⟩) es)(m:Nat):ql w P (some ⟨g,i,none⟩) (es.take m):=by
 refine⟨?_,by have:=h.few;rw [ay];omega⟩;rcases h.at_ with e|⟨j,l,d,b,f,c⟩;.left;rw [e];simp
 .cases d;right;refine⟨g,i,rfl,b,f,λk a=>?_⟩;rw [ay] at a;rw [lO];exact c k (by omega)
theorem ql.drop{g a:Nat}(h:ql w P (some ⟨g,a,none⟩) es)(m:Nat):ql w P (some ⟨g,a+m*5,none⟩) (es.drop m):=by
 refine⟨?_,by have:=h.few;rw [aU];omega⟩;rcases h.at_ with f|⟨j,l,e,c,i,d⟩;.left;rw [f];simp
 .cases e;right;refine⟨g,a+m*5,rfl,c,i,λk b=>?_⟩;rw [aU] at b;rw [lP,show a+m*5+k*5=a+(m+k)*5 from by omega];exact d (m+k) (by omega)
theorem yR(w:World)(bc bd:Nat)(S T:Nat->Prop)(D:Dk)(C:Ck)(h:Cw w bc bd S T D C)(r:0<=D.reads)(t:D.reads<=4611686018427387904)(c:Nat)(H:c<65536)(k:Nat)(es:List En)(y:k=4\/k=5)(u:∀e∈es,e.Ok)(o:k=4->∀e∈es,e.mark=false/\e.size=0)(q:es.length<=6)(B:C.look D c=zo (zc k es)):
 Calls Tryz.prog 174 #[.iface 142 (.pointer (some ⟨bc,0,none⟩)),.int .i64 c] w λe w'=>∃d a,e=.returned (.agg #[.int .u8 (k:Int),.slice d es.length a])/\(∃n:Int,0<=n/\n<=1/\Cw w' bc bd S T {D with reads:=D.reads+n} C)/\Kept (λi=>i=bd) w w'/\ql w' (λb=>w.heap.size<=b) d es/\w'.ownsRow 0 109 5 (.slice d es.length a) es.length (es.map qE).flatten/\(∀j,(Value.slice d es.length a).ownBlock=some j->w.heap.size<=j):=by
 have v:=h.disk.lt;have z:=h.chg.lt;have x:=v bd h.disk.bdS;refine(Y7 w 142 192 ⟨bc,0,none⟩ (cz _) (λi=>i=bd) (λg=>w.heap.size<=g.heap.size/\∃n:Int,0<=n/\n<=1/\Cw g bc bd S T {D with reads:=D.reads+n} C) c k es y u o q (λw0 m=>?_) (λi f=>by rw [f];exact x)).mono ?_
 .refine(vu w0 bc bd S T D C (h.kept0 m) c (by constructor<;>omega) r t).mono ?_;rintro e g ⟨rfl,p,l⟩;rw [B];exact⟨rfl,l,aF m.size l.size,p⟩
 .rintro e w' ⟨g,d,a,rfl,p,⟨I,n,A,F,l⟩,s,o⟩;refine⟨d,a,rfl,⟨n,A,F,l.kept s (λi f G=>?_) (λi f G=>?_)⟩,p.trans s (λj E=>.inr E),o⟩;.have:=v i f;omega
  .have:=z i f;omega
theorem Qm(w:World)(bd:Nat)(S:Nat->Prop)(D:Dk)(h:ze w bd S D)(q:0<=D.reads)(s:D.reads<=4611686018427387904)(c:Nat)(A:c<65536)(k:Nat)(es:List En)(y:k=4\/k=5)(t:∀e∈es,e.Ok)(o:k=4->∀e∈es,e.mark=false/\e.size=0)(m:es.length<=6)(x:D.look c=zo (zc k es)):
 Calls Tryz.prog 174 #[.iface 29 (.pointer (some ⟨bd,0,none⟩)),.int .i64 c] w λe w'=>∃d a,e=.returned (.agg #[.int .u8 (k:Int),.slice d es.length a])/\ze w' bd S {D with reads:=D.reads+1}/\Kept (λi=>i=bd) w w'/\ql w' (λb=>w.heap.size<=b) d es/\w'.ownsRow 0 109 5 (.slice d es.length a) es.length (es.map qE).flatten/\(∀j,(Value.slice d es.length a).ownBlock=some j->w.heap.size<=j):=by
 have u:=h.lt;have v:=u bd h.bdS;refine(Y7 w 29 81 ⟨bd,0,none⟩ (da _) (λi=>i=bd) (λf=>w.heap.size<=f.heap.size/\ze f bd S {D with reads:=D.reads+1 }) c k es y t o m (λw0 l=>?_) (λi n=>by rw [n];exact v)).mono ?_
 .refine(kg w0 bd S D (h.kept l nF) c (by constructor<;>omega) q s).mono ?_;rintro e f ⟨rfl,p,g⟩;rw [x];exact⟨rfl,g,aF l.size g.size,p⟩
 .rintro e w' ⟨f,d,a,rfl,p,⟨C,g⟩,r,o⟩;refine⟨d,a,rfl,g.kept r (λi n B=>?_),p.trans r (λj z=>.inr z),o⟩;have:=u i n;omega
theorem qH(C:Ck)(i:Nat)(b:List Value):(C.put i b).ws.length<=C.ws.length+1:=by
 cases a:yy C.ws i with
 |none=>rw [kO b a];simp
 |some k=>obtain⟨c,e⟩:=ki b a;rw [e];simp
theorem v8(w:World)(bc bd:Nat)(S T:Nat->Prop)(D:Dk)(C:Ck)(h:Cw w bc bd S T D C)(P:Nat->Prop)(a:Option Addr)(cap:Nat)(k:Nat)(m:k=4\/k=5)(es:List En)(i:ql w P a es)(f:∀e∈es,e.Ok)(c:es.length<=6)(b:Nat)(d:C.ws.length<1000)(n:Nat)(l:es.length=n):
 Calls Tryz.prog 173 #[.agg #[.int .u8 (k:Int),.slice a n cap],.pointer (some ⟨bc,0,none⟩),.int .i64 b] w λr w'=>r=.returned (.tuple #[])/\(∃g,Cw w' bc bd S g D (C.put b (zo (zc k es)))/\∀j,g j->T j\/w.heap.size<=j)/\Kept T w w':=by
 subst l;exact Gq w bc bd S T D C h P a cap k m es i f c b d
theorem Xd(w:World)(a b c d:Obj):((((w.alloc a).alloc b).alloc c).alloc d).drew.heap[w.heap.size]? =some a/\((((w.alloc a).alloc b).alloc c).alloc d).drew.heap[w.heap.size+1]? =some b/\((((w.alloc a).alloc b).alloc c).alloc d).drew.heap[w.heap.size+1+1]? =some c/\((((w.alloc a).alloc b).alloc c).alloc d).drew.heap[w.heap.size+1+1+1]? =some d/\Kept (λ_=>False) w ((((w.alloc a).alloc b).alloc c).alloc d).drew/\((((w.alloc a).alloc b).alloc c).alloc d).drew.heap.size=w.heap.size+4:=by
 have m:(w.alloc a).heap.size=w.heap.size+1:=by simp
 have k:((w.alloc a).alloc b).heap.size=w.heap.size+1+1:=by simp
 have i:(((w.alloc a).alloc b).alloc c).heap.size=w.heap.size+1+1+1:=by simp
 have j:((((w.alloc a).alloc b).alloc c).alloc d).heap.size=w.heap.size+4:=by simp
 have k1:=Kept.alloc (λ_=>False) w a;have k2:=Kept.alloc (λ_=>False) (w.alloc a) b;have k3:=Kept.alloc (λ_=>False) ((w.alloc a).alloc b) c;have e:=Kept.alloc (λ_=>False) (((w.alloc a).alloc b).alloc c) d;have l:=heap_alloc_new w a;have f:=heap_alloc_new (w.alloc a) b;have g:=heap_alloc_new ((w.alloc a).alloc b) c;have h:=heap_alloc_new (((w.alloc a).alloc b).alloc c) d;rw [m] at f;rw [k] at g;rw [i] at h;refine⟨?_,?_,?_,h,?_,j⟩;.exact((e.block _ (by omega) id).trans ((k3.block _ (by omega) id).trans ((k2.block _ (by omega) id).trans l)))
 .exact((e.block _ (by omega) id).trans ((k3.block _ (by omega) id).trans f))
 .exact((e.block _ (by omega) id).trans g)
 .exact(((k1.trans k2 iL).trans k3 iL).trans e iL).trans (Kept.drew _ _) iL
theorem Qn(w:World)(bc bd:Nat)(S T:Nat->Prop)(D:Dk)(C:Ck)(h:Cw w bc bd S T D C)(P:Nat->Prop)(y:∀j,P j->¬T j)(a:Option Addr)(cap:Nat)(k:Nat)(az:k=4\/k=5)(es:List En)(L:ql w P a es)(B:∀e∈es,e.Ok)(m:Nat)(aQ:m=es.length/2)(aG:m<es.length)(aK:es.length<=12)(aI:es.length<=cap)(aF:cap<=9223372036854775807)(M af:Nat)(aR:C.ws.length<900):
 Calls Tryz.prog 200 #[.agg #[.int .u8 (k:Int),.slice a es.length cap],.pointer (some ⟨bc,0,none⟩),.int .i64 M,.int .i64 af] w λr w'=>r=.returned (.agg #[.string es[m].pl.key,.int .i64 es[m].pl.num])/\(∃ap,Cw w' bc bd S ap D ((C.put M (zo (zc k (es.take m)))).put af (zo (zc k (es.drop m))))/\∀j,ap j->T j\/w.heap.size<=j)/\Kept T w w':=by
 obtain⟨g,p,rfl⟩:=L.base (by omega);have ag:Hid _:=h;have an:Hid _:=L.take m;have aq:Hid _:=L.drop m;have ao:(es.take m).length=m:=by rw [ay];omega
 have aj:(es.drop m).length=es.length-m:=aU ..;have R:Hid ((es.length:Int)/2=(m:Int)):=by show (es.length:Int)/2=(m:Int);omega
 have aW:(m:Int)<=(cap:Int):=by omega
 have aS:m<=6:=by omega
 have aY:es.length-m<=6:=by omega
 have am:Hid (∀e∈es.take m,e.Ok):=λe ac=>B e (aJ ac);have aA:Hid (∀e∈es.drop m,e.Ok):=λe ac=>B e (eJ ac);clear B;have a3:¬cap=m:=by omega
 change Hid _ at L;clear h;go_enter Tryz.func200,Tryz.ntmps200;go_wp2;rw [R.out];clear R aQ;have a4:(m:Int)<=(es.length:Int):=by omega
 go_region_held3 (λw'=>w'.cell? ⟨w.heap.size,0,none⟩=some (.int .u8 (k:Int))/\w'.cell? ⟨w.heap.size,1,none⟩=some (.slice (some ⟨g,p,none⟩) es.length cap)) (go_keep) (fail);obtain⟨_,A,I,x,u,aP⟩:=Xd w (.cells #[.int .u8 (k:Int),.slice (some ⟨g,p,none⟩) es.length cap] 209) (.cells #[.string ⟨#[]⟩,.int .i64 0] 107) (.cells #[.int .u8 (k:Int),.slice (some ⟨g,p,none⟩) m cap] 209) (.cells #[.int .u8 (k:Int),.slice (some ⟨g,p+m*5,none⟩) (es.length-m) (cap-m)] 209);have Y:Hid _:=A;have H:Hid _:=I;have z:Hid _:=x;have l:Hid _:=u;clear A I x u;generalize ((((w.alloc (.cells #[.int .u8 (k:Int),.slice (some ⟨g,p,none⟩) es.length cap] 209)).alloc (.cells #[.string ⟨#[]⟩,.int .i64 0] 107)).alloc (.cells #[.int .u8 (k:Int),.slice (some ⟨g,p,none⟩) m cap] 209)).alloc (.cells #[.int .u8 (k:Int),.slice (some ⟨g,p+m*5,none⟩) (es.length-m) (cap-m)] 209)).drew=ab at*;generalize aB:w.heap.size+1+1+1=d at*;generalize ai:w.heap.size+1+1=F at*
 rotate_left
 obtain⟨_,A,I,x,u,aP⟩:=Xd w (.cells #[.int .u8 (k:Int),.slice (some ⟨g,p,none⟩) es.length cap] 209) (.cells #[.string ⟨#[]⟩,.int .i64 0] 107) (.cells #[.int .u8 (k:Int),.slice (some ⟨g,p+m*5,none⟩) (es.length-m) (cap-m)] 209) (.cells #[.int .u8 (k:Int),.slice (some ⟨g,p,none⟩) m cap] 209);have Y:Hid _:=A;have z:Hid _:=I;have H:Hid _:=x;have l:Hid _:=u;clear A I x u;generalize ((((w.alloc (.cells #[.int .u8 (k:Int),.slice (some ⟨g,p,none⟩) es.length cap] 209)).alloc (.cells #[.string ⟨#[]⟩,.int .i64 0] 107)).alloc (.cells #[.int .u8 (k:Int),.slice (some ⟨g,p+m*5,none⟩) (es.length-m) (cap-m)] 209)).alloc (.cells #[.int .u8 (k:Int),.slice (some ⟨g,p,none⟩) m cap] 209)).drew=ab at*;generalize ai:w.heap.size+1+1+1=F at*;generalize aB:w.heap.size+1+1=d at*
 rotate_left
 all_goals
  have aT:ab.cell? ⟨F,0,none⟩=some (.int .u8 (k:Int)):=cR H.out rfl;have aH:ab.cell? ⟨F,1,none⟩=some (.slice (some ⟨g,p,none⟩) m cap):=cR H.out rfl;have aD:Hid _:=ag.kept0 l.out;have N:=ag.chg.lt;have q:F<ab.heap.size/\d<ab.heap.size/\w.heap.size<=F/\w.heap.size<=d:=by omega
  have ar:Hid _:=an.kept l nF;have W:Hid _:=aq.kept l nF;have n:∀j,w.heap.size<=j->¬T j:=λj b aN=>by have:=N j aN;omega
  change Hid _ at n;clear N;change Hid _ at y;have aC:Hid ((es.drop m)[0]'(by omega)=es[m]):=by show (es.drop m)[0]'(by omega)=es[m];rw [lP];rfl
  generalize O:es[m]=t at*;change Hid _ at O
  go_wp2_with (first
   |(go_at_call 173;refine(v8 ae bc bd S aM D _ ax _ _ (cap-m) k az (es.drop m) aE aA (by omega) af (by have:=qH C M (zo (zc k (es.take m)));omega) (es.length-m) aj).mono ?_;rintro r f ⟨rfl,⟨av,X,i⟩,U⟩;have ah:Hid _:=i;have o:=Q.trans U E.out;have ad:Hid _:=(o.block d q.2.1 (n d q.2.2.2)).trans z.out;have aV:f.cell? ⟨d,1,none⟩=some (.slice (some ⟨g,p+m*5,none⟩) (es.length-m) (cap-m)):=(cR ad.out rfl);have c:Hid (f.heap[w.heap.size+1]? =_):=(o.block (w.heap.size+1) (by omega) (n _ (by omega))).trans Y.out;have aZ:f.cell? ⟨w.heap.size+1,0,none⟩=some (.string ⟨#[]⟩):=(cR c.out rfl);have a2:f.cell? ⟨w.heap.size+1,1,none⟩=some (.int .i64 0):=(cR c.out rfl);have a1:=aa f (w.heap.size+1) 0 _ _ c.out;have a5:=aa f (w.heap.size+1) 1 _ _ c.out;obtain⟨K,aL, -, -, -, -, -⟩:=(W.kept o (λj b=>y j b)).cells 0 (by omega);rw [Nat.zero_mul,lS,aC.out] at K aL;have aO:(0:Int)<((es.length-m:Nat):Int):=(by omega);change Hid _ at X U o;clear i)
   |(go_at_call 173;refine(v8 ab bc bd S T D C aD P _ cap k az (es.take m) ar am (by omega) M (by omega) m ao).mono ?_;rintro r ae ⟨rfl,⟨aM,Z,V⟩,s⟩;have ax:Hid _:=Z;have E:Hid _:=V;have Q:Hid _:=s;have aE:Hid _:=(W.below.kept s (λj b=>y j b.1));have J:Hid _:=(s.block d q.2.1 (n d q.2.2.2)).trans z.out;have aX:ae.cell? ⟨d,0,none⟩=some (.int .u8 (k:Int)):=(cR J.out rfl);have a0:ae.cell? ⟨d,1,none⟩=some (.slice (some ⟨g,p+m*5,none⟩) (es.length-m) (cap-m)):=(cR J.out rfl);clear Z V s))
  have ak:=heap_setCell_same f (w.heap.size+1) 0 _ _ (.string t.pl.key) c.out;have al:=heap_setCell_same _ (w.heap.size+1) 1 _ _ (.int .i64 t.pl.num) ak;have au:Kept (λj=>j=w.heap.size+1) f ((f.setCell ⟨w.heap.size+1,0,none⟩ (.string t.pl.key)).setCell ⟨w.heap.size+1,1,none⟩ (.int .i64 t.pl.num)):=(Kept.setCell (S:=λj=>j=w.heap.size+1) f ⟨w.heap.size+1,0,none⟩ _ rfl).trans (Kept.setCell (S:=λj=>j=w.heap.size+1) _ ⟨w.heap.size+1,1,none⟩ _ rfl) iL
  have i:∀j,av j->T j\/ab.heap.size<=j:=λj b=>by
   rcases ah j b with G|G;.exact E j G
   .right;have:=Q.size;omega
  have aw:=ag.disk.lt;refine bodyPost_ret (v:=.agg #[.string t.pl.key,.int .i64 t.pl.num]) (results_cell_row Tryz.results200 _ _ (w.heap.size+1) 107 _ (0,0) _ rfl al Tryz.underlying107 rfl (by kernel_rfl)) rfl ⟨by rw [O.out],⟨av,X.kept au (λj b K=>by have:=aw j b;omega) (λj b K=>?_),λj b=>(i j b).imp id (λh=>by omega)⟩,?_⟩
  .subst K;rcases i _ b with G|G;.exact n _ (by omega) G
   .omega
  .exact((l.mono fE).trans o iL).trans au (λj b=>.inr (by omega))
theorem ZT{P:Program}(w:World)(s D y h:TypeId)(f g q d m:Nat)(a:Addr)(e n:Nat)(b:Array Value)(t:TypeId)(c:List Value)
 (x:P.underlying s=some (.slice h)) (r:(P.info? h).map (·.size)=some f)
 (A:w.heap[g]? =some (.cells b t (0,0))) (B:Nat.min e d*f=c.length)
 (p:∀j v,c[j]? =some v->w.cell? (a.add j)=some v) (l:q+c.length<=b.size) (C:∀v∈c,v.oneCell'=true):
 (Builtin.copy_ #[s,D] y #[.slice (some ⟨g,q,none⟩) d m,.slice (some a) e n]).run P w=
  .ok (goInt (Nat.min e d)) (w.setRow g (b.toList.take q++c++b.toList.drop (q+c.length)).toArray):=by
 have u:=run_loadCells_list (P:=P) w a c p;have k:=run_storeCells_at P g q t c 0 b w A (by simpa using l) C
 cases o:P.info? h with
 |none=>simp [o] at r
 |some i=>
  have z:i.size=f:=by simpa [o] using r
  simp only [lS] at k;simp [Builtin.copy_,iz x,Builtin.lenOf,Builtin.firstCells,sizeOf,typeInfo,o,z,B,u,k]
def Wz(args:Array Value):Sem Value:=Builtin.copy_ #[207, 207] 3 args
theorem Gt(args:Array Value):Builtin.copy_ #[207, 207] 3 args=Wz args:=rfl
def Wb(args:Array Value):Sem Value:=Builtin.append_ #[207, 3] 207 args
theorem DS(args:Array Value):Builtin.append_ #[207, 3] 207 args=Wb args:=rfl
def zj(es:List En):List Value:=(es.map qE).flatten
theorem yD(es:List En):(zj es).length=es.length*5:=by
 induction es with
 |nil=>rfl
 |cons e r a=>rw [zj,aT,eo,ah];rw [zj] at a;rw [a];simp [qE];omega
theorem yf(A B:List En):zj (A++B)=zj A++zj B:=by simp [zj]
theorem jx(e:En)(B:List En):zj (e::B)=qE e++zj B:=by simp [zj]
theorem vv(es:List En):∀v∈zj es,v.oneCell'=true:=λv a=>by
 obtain⟨l,b,a⟩:=ii.1 a;obtain⟨e,c,rfl⟩:=av.1 b;simp [qE] at a;rcases a with rfl|rfl|rfl|rfl|rfl<;>rfl
theorem KY(e:En):∀v∈qE e,v.oneCell'=true:=λv a=>vv [e] v (by rw [jx];exact ac _ a)
theorem Tryz.entry_size:(Tryz.prog.info? 109).map (·.size)=some 5:=qc Tryz.infoEntry
theorem bQ(w:World)(g l b f:Nat)(a:Addr)(c h:Nat)(d:Array Value)(t:TypeId)(e:List Value)
 (n:w.heap[g]? =some (.cells d t (0,0))) (o:Nat.min c b*5=e.length)
 (k:∀j v,e[j]? =some v->w.cell? (a.add j)=some v) (i:l+e.length<=d.size) (m:∀v∈e,v.oneCell'=true):
 (Wz #[.slice (some ⟨g,l,none⟩) b f,.slice (some a) c h]).run Tryz.prog w=
  .ok (goInt (Nat.min c b)) (w.setRow g (d.toList.take l++e++d.toList.drop (l+e.length)).toArray):=
 ZT w 207 207 3 109 5 g l b f a c h d t e Tryz.underlying207 Tryz.entry_size n o k i m
theorem VQ(A B:List Value)(v:List Value)(a:List Value)(k:Nat)(e:v.length=k)(d:k<=a.length):
 let cur:=A++B++a;let cur1:=cur.take (A.length+k)++B++cur.drop (A.length+k+B.length)
 cur1.take A.length++v++cur1.drop (A.length+k)=A++v++B++a.drop k:=by
 have b:(A++B++a).drop (A.length+k+B.length)=a.drop k:=by rw [show A.length+k+B.length=(A++B).length+k by rw [ah];omega,List.drop_append,List.drop_eq_nil_of_le (by omega),aH,iy]
 have f:((A++B++a).take (A.length+k)).length=A.length+k:=by rw [ay,ah,ah];omega
 have c:((A++B++a).take (A.length+k)).take A.length=A:=by rw [iJ,eE (by omega),an,eC (aC _),eX]
 simp only;rw [b,an ((A++B++a).take _) B];rw [eC (by omega),c,iq (by omega),List.drop_eq_nil_of_le (by omega)];simp
structure gJ (w w':World) (a:Option Addr) (n cap:Nat) (es':List En) (g cp:Nat):Prop where
 own:w'.ownsRow 0 109 5 (.slice (some ⟨g,0,none⟩) es'.length cp) es'.length (zj es')
 at_:(Value.slice a n cap).ownBlock=some g\/w.heap.size<=g
 kept:Kept (λj=>(Value.slice a n cap).ownBlock=some j) w w'
section
attribute [local go_sem ↓] bO
theorem QU(w:World)(a:Option Addr)(n cap:Nat)(es:List En)(u:es.length=n)(h:w.ownsRow 0 109 5 (.slice a n cap) n (zj es))(k:Nat)(e:En)(t:w.heap[k]? =some (.cells (qE e).toArray 109 (0,0)))(s:n<=1000)(x:n<=cap)(o:cap<=9223372036854775807):
 Calls Tryz.prog 177 #[.slice a n cap,.int .i64 n,.slice (some ⟨k,0,none⟩) 1 1] w λr w'=>∃g b,r=.returned (.slice (some ⟨g,0,none⟩) (n+1) b)/\gJ w w' a n cap (es++[e]) g b:=by
 obtain⟨g,b,p,q,d,c,f,m⟩:=Y6 w a n cap (zj es) h k e t s
 have i:Hid (gJ w p a n cap (es++[e]) g b):=by refine⟨?_,f.imp id (λh=>by omega),Kept.grown c (λj v=>v)⟩;rw [ah,iG,u,yf,jx];simpa [zj] using d
 clear d c f m h;have y:(n:Int)<=(cap:Int):=by omega
 go_enter Tryz.func177,Tryz.ntmps177
 cases a with
 |none=>
  go_wp2
  all_goals
   go_ret;exact⟨g,b,rfl,i.out⟩
 |some a=>
  by_cases l:cap=n
  .subst l;go_wp2
   all_goals
    go_ret;exact⟨g,b,rfl,i.out⟩
  .go_wp2
   all_goals
    go_ret;exact⟨g,b,rfl,i.out⟩
end
theorem ZU(w:World)(a g h i lb d l:Nat)(f:a≠g)(b:Array Value)(vs:List Value)(c:w.heap[a]? =some (.cells vs.toArray 109 (0,0)))(j:w.heap[g]? =some (.cells b 109 (0,0)))(k:b.size≠0):
 (callFunc 198 #[.slice (some ⟨a,0,none⟩) h i,.slice (some ⟨g,l,none⟩) lb d]).run Tryz.prog w=.ok (.value (.bool false)) w:=by
 rw [run_callFunc_extern Tryz.func198 (by kernel_rfl) (by kernel_rfl) (by kernel_rfl) (e:=Extern.SlicesOverlaps.overlaps #[207, 207] #[4]) (by kernel_rfl),
  Lib.run_overlaps_apart w 207 4 109 Tryz.underlying207 5 (jk Tryz.entry_size) ⟨a,0,none⟩ ⟨g,l,none⟩ h i lb d f 109 109 vs.length b.size (by simp [World.shape?, c]) (by simp [World.shape?, j]) k (aa w a 0 _ _ c) (aa w a _ _ _ c)]
 rfl
section
attribute [local go_sem ↓] Gt
theorem ZV(w:World)(g n cap i:Nat)(es:List En)(Y:es.length=n)(h:w.ownsRow 0 109 5 (.slice (some ⟨g,0,none⟩) n cap) n (zj es))(c:Nat)(B:c≠g)(e:En)(z:w.heap[c]? =some (.cells (qE e).toArray 109 (0,0)))(al:n<=1000)(am:i<n)(Q:n+1<=cap)(R:cap<=9223372036854775807):
 Calls Tryz.prog 177 #[.slice (some ⟨g,0,none⟩) n cap,.int .i64 i,.slice (some ⟨c,0,none⟩) 1 1] w λr w'=>∃I P,r=.returned (.slice (some ⟨I,0,none⟩) (n+1) P)/\gJ w w' (some ⟨g,0,none⟩) n cap (es.take i++e::es.drop i) I P:=by
 obtain⟨a,l,N,A⟩:∃a,w.heap[g]? =some (.cells a 109 (0,0))/\a.size=cap*5/\a.toList.take (n*5)=zj es:=by
  rcases h.2 with⟨W,_⟩|⟨I,S,a,aa,_,l,_,_,X,T⟩;.cases W
  .cases aa;exact⟨a,l,X,T⟩
 have M:∀U lb J,(callFunc 198 #[.slice (some ⟨c,0,none⟩) 1 1,.slice (some ⟨g,U,none⟩) lb J]).run Tryz.prog w=.ok (.value (.bool false)) w:=λU lb J=>ZU w c g 1 1 lb J U B a (qE e) z l (by omega)
 have x:a.toList=zj (es.take i)++zj (es.drop i)++a.toList.drop (n*5):=by rw [<-yf,aA,<-A,aA]
 have d:(zj (es.take i)).length=i*5:=by rw [yD,ay,eE (by omega)]
 have b:(zj (es.drop i)).length=(n-i)*5:=by rw [yD,aU,Y]
 have s:=bQ w.drew g ((i+1)*5) (n+1-(i+1)) (cap-(i+1)) ⟨g,i*5,none⟩ (n+1-i) (cap-i) a 109 (zj (es.drop i)) l (by rw [b];rw [show Nat.min (n+1-i) (n+1-(i+1))=n-i from by simp only [Nat.min_def];split<;>omega])
  (λj v q=>by
   rw [Addr.add_lit];show w.cell? ⟨g,i*5+j,none⟩=some v;rw [ak w g (i*5+j) _ _ _ l,<-lm,x,an,ia (by omega),d,iy,eW (by have:=(aW.1 q).1;omega)]
   exact q) (by rw [b];omega) (vv _)
 have o:=VQ (zj (es.take i)) (zj (es.drop i)) (qE e) (a.toList.drop (n*5)) 5 rfl (by rw [aU,iC];omega);simp only at o;rw [<-x,d,b] at o;rw [b,show (i+1)*5=i*5+5 from by omega] at s;generalize F:a.toList.take (i*5+5)++zj (es.drop i)++a.toList.drop (i*5+5+(n-i)*5)=p at*;have u:p.length=cap*5:=by rw [<-F];simp only [ah,ay,aU,iC,b];omega
 have t:(w.drew.setRow g p.toArray).heap[g]? =some (.cells p.toArray 109 (0,0)):=setRow_heap w.drew g _ _ 109 _ l;have y:Kept (λj=>j=g) w (w.drew.setRow g p.toArray):=⟨rfl,rfl,rfl,by simp,λk _ H=>setRow_other w.drew g k _ (λe=>H (by rw [e]))⟩;have L:c<w.heap.size:=(lT z);generalize w.drew.setRow g p.toArray=f at*;have E:f.heap[c]? =_:=(y.block c L B).trans z
 have G:=bQ f g (i*5) (n+1-i) (cap-i) ⟨c,0,none⟩ 1 1 p.toArray 109 (qE e) t (by rw [show Nat.min 1 (n+1-i)=1 from by simp only [Nat.min_def];split<;>omega];rfl)
  (λj v q=>by
   rw [Addr.add_lit,aV,ak f c j _ _ _ E]
   simpa using q) (by rw [aw,u];simp [qE];omega) (KY _)
 have m:(qE e).length=5:=rfl;rw [i6,m,o] at G;have D:=setRow_heap f g _ ((zj (es.take i)++qE e++zj (es.drop i)++(a.toList.drop (n*5)).drop 5).toArray) 109 _ t;have C:Kept (λj=>j=g) f (f.setRow g ((zj (es.take i)++qE e++zj (es.drop i)++(a.toList.drop (n*5)).drop 5).toArray)):=⟨rfl,rfl,rfl,by simp,λk _ H=>setRow_other f g k _ (λe=>H (by rw [e]))⟩;generalize f.setRow g _=Z at*
 have V:Hid (gJ w Z (some ⟨g,0,none⟩) n cap (es.take i++e::es.drop i) g cap):=by
  have K:(es.take i++e::es.drop i).length=n+1:=by simp only [ah,ay,ae,aU];omega
  have O:zj (es.take i++e::es.drop i)=zj (es.take i)++qE e++zj (es.drop i):=by rw [yf,jx,an]
  refine⟨⟨by rw [yD],.inr ⟨g,cap,_,rfl,ai _,D,by omega,by unfold maxLen;omega,?_,?_⟩⟩,.inl rfl,(y.trans C iL).mono (λj q=>by rw [q];rfl)⟩;.simp only [aw,ah,aU,iC,d,b,m];omega
  .rw [i6,O,K,eC (by simp only [ah,d,b,m];omega),ao (by simp only [ah,d,b,m];omega)]
 clear x o D C t y F u d b A N l h z E;have af:(i:Int)<(n:Int):=by omega
 have ab:¬(i:Int)=(n:Int):=by omega
 have ac:(n:Int)+1<=(cap:Int):=by omega
 have ad:¬(cap:Int)<(n:Int)+1:=by omega
 have ag:¬cap=i:=by omega
 have aj:¬cap=i+1:=by omega
 rw [show n+1-(i+1)=n-i from by omega,show i*5+5=(i+1)*5 from by omega] at s;go_enter Tryz.func177,Tryz.ntmps177;go_wp2_with (simp only [M])
 go_region
 go_wp2;go_ret;exact⟨g,cap,rfl,V.out⟩
end
end prog
namespace disk
open Go.RowKit
variable {w wr:World}{bd g bc pc:Nat}{S:Nat->Prop}{D:Dk}{pa ba:Option Addr}
def zk(bs:List (List Value))(ps:List (Nat×List Value)):List (List Value):=ps.foldl (λbs p=>bs.set p.1 p.2) bs
theorem zB(ps:List (Nat×List Value)):∀bs,(zk bs ps).length=bs.length:=by
 induction ps with
 |nil=>intro bs;rfl
 |cons p ps a=>intro bs;unfold zk;rw [l5];exact(a _).trans (by simp)
theorem Xe(bs:List (List Value))(ps:List (Nat×List Value))(k:Nat)(a:k<ps.length):zk bs (ps.take (k+1))=(zk bs (ps.take k)).set ps[k].1 ps[k].2:=by
 unfold zk;rw [ar a,lN];rfl
theorem zn.setb(h:zn w bd S D (some ⟨g,0,none⟩) pa bc pc)(i:Nat)(o:i<D.bs.length)(b:List Value)(j:zW b):
 zn (w.setCells g (i*128) b) bd S {D with bs:=D.bs.set i b} (some ⟨g,0,none⟩) pa bc pc:=by
 have a:(D.bs.set i b).length=D.bs.length:=by simp
 have n:g≠bd:=λe=>h.ap1 (by rw [e];rfl);have d:=Kept.setCells (S:=λk=>k=g) g rfl b (i*128) w;refine⟨⟨?_,?_,by simpa using h.ok.few⟩,?_,?_,?_,?_,?_,?_,?_⟩
 .intro m c;rcases iD c with c|rfl;.exact h.ok.bs m c
  .exact j
 .intro p l;simpa using h.ok.ps p l
 .simp only [a];rw [d.block bd (h.lt bd h.bdS) (λe=>n e.symm)];exact h.head
 .simp only [a];exact cd h.rows (λm c=>(h.ok.bs m c).1) i o b j.1
 .exact d.owns h.pend (λk f e=>h.ap3 k (by rw [e];rfl) f)
 .simp only [a];exact h.own
 .simp only [a];exact h.ap1
 .exact h.ap2
 .simp only [a];exact h.ap3
theorem zn.bthere(h:zn w bd S D (some ⟨g,0,none⟩) pa bc pc)(i:Nat)(c:i<D.bs.length):w.there g (i*128) 128:=
 b8 h.rows (λb a=>(h.ok.bs b a).1) i c
theorem zn.nopend(h:zn w bd S D ba pa bc pc):
 zn (w.setCell ⟨bd,1,none⟩ (.slice none 0 0)) bd (λk=>k=bd\/(Value.slice ba D.bs.length bc).ownBlock=some k) {D with ps:=[]} ba none bc 0:=by
 have c:=Kept.setCell (S:=λk=>k=bd) w ⟨bd,1,none⟩ (.slice none 0 0) rfl;refine⟨⟨h.ok.bs,λp b=>(by cases b),h.ok.few⟩,?_,c.owns h.rows (λk a e=>h.ap1 (by rw [a,e])),aP _ _ _ _,?_,h.ap1,by simp [Value.ownBlock],λk _=>by simp [Value.ownBlock]⟩;.rw [heap_setCell_same w bd 1 _ _ _ h.head];rfl
 .intro k;simp [Value.ownBlock]
structure kq (w wr:World) (bd:Nat) (S:Nat->Prop) (D:Dk) (ba pa:Option Addr) (bc pc:Nat):Prop where
 disk:zn wr bd S D ba pa bc pc
 kept:Kept S w wr
theorem kq.alloc(h:kq w wr bd S D ba pa bc pc)(a:Obj):kq w (wr.alloc a) bd S D ba pa bc pc:=
 ⟨h.disk.kept (Kept.alloc (λ_=>False) wr a) nF,h.kept.trans (Kept.alloc S wr a) iL⟩
theorem kq.drew(h:kq w wr bd S D ba pa bc pc):kq w wr.drew bd S D ba pa bc pc:=
 ⟨h.disk.kept (Kept.drew (λ_=>False) wr) nF,h.kept.trans (Kept.drew S wr) iL⟩
theorem kq.setb(h:kq w wr bd S D (some ⟨g,0,none⟩) pa bc pc)(i:Nat)(c:i<D.bs.length)(b:List Value)(a:zW b):
 kq w (wr.setCells g (i*128) b) bd S {D with bs:=D.bs.set i b} (some ⟨g,0,none⟩) pa bc pc:=
 ⟨h.disk.setb i c b a,h.kept.trans (Kept.setCells (S:=S) g ((h.disk.own g).2 (.inr (.inl rfl))) b (i*128) wr) iL⟩
end disk
end Go.Proofs.YtcoengihaobddaaGreatDoor

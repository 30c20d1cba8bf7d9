/- Part 14 of 50 of a proof: Sto3, BGet1, Get1, Get2, At1, Mng1, Root2, Ord1 -/
import Derived.Test.YtcoengihaobddaaGreatDoorJe13
set_option maxHeartbeats 8000000
set_option linter.unusedVariables false
set_option linter.unusedSimpArgs false
set_option maxRecDepth 8000
namespace Go.Proofs.YtcoengihaobddaaGreatDoor
namespace prog
open Go.ChangeShapes Go.WideShapes Go.ChangeAt Go.RowKit disk ref
open keys (zg zd zq zl)
def jH(key:ByteArray):Option En->Bool
 |some x=>decide (x.pl.key=key)&& !x.mark
 |none=>false
theorem xV(w:World)(bs bd:Nat)(S:Nat->Prop)(D:Dk)(k:Int)(ab:zt w bs k (some bd))(t:ze w bd S D)(ah:¬S bs)(P:0<=D.reads)(T:D.reads<=4611686018427360000)(tree n:Nat)(E:yi (D.look 1) tree n)(key:ByteArray)(es:List En)(bl:List Nat)(hF:yo (λj=>D.look (j:Nat)) tree es bl)(K:bl.length<=979)(hbs:∀j∈bl,21<=j)(q:Option En)(O:(xn ⟨key,9223372036854775807⟩ es).head? =q):
 Calls Tryz.prog 50 #[.pointer (some ⟨bs,0,none⟩),.string key] w λe w'=>e=.returned (.tuple #[.agg (jP q).toArray,.bool (jH key q)])/\(∃r:Int,D.reads<=r/\r<=D.reads+14/\ze w' bd S {D with reads:=r })/\Kept (λi=>i=bd) w w':=by
 have ak:=t.lt bd t.bdS;have X:Hid (∀j,S j->j<w.heap.size):=t.lt;have C:Hid (Kept (λ_=>False) w (w.alloc (.cells #[.string ⟨#[]⟩,.int .i64 0,.bool false,.int .i64 0,.int .i64 0] 109))):=Kept.alloc _ _ _;have L:Hid ((w.alloc (.cells #[.string ⟨#[]⟩,.int .i64 0,.bool false,.int .i64 0,.int .i64 0] 109)).heap[w.heap.size]? =some (.cells #[.string ⟨#[]⟩,.int .i64 0,.bool false,.int .i64 0,.int .i64 0] 109 (0,0))):=heap_alloc_new w _;have al:(w.alloc (.cells #[.string ⟨#[]⟩,.int .i64 0,.bool false,.int .i64 0,.int .i64 0] 109)).heap.size=w.heap.size+1:=by simp
 have Z:Hid (Calls Tryz.prog 66 #[.pointer (some ⟨bs,0,none⟩),.agg #[.string key,.int .i64 9223372036854775807]] (w.alloc (.cells #[.string ⟨#[]⟩,.int .i64 0,.bool false,.int .i64 0,.int .i64 0] 109)) λe w'=>e=.returned (.tuple #[.agg (jP q).toArray,.bool q.isSome])/\(∃r:Int,D.reads<=r/\r<=D.reads+14/\ze w' bd S {D with reads:=r })/\Kept (λi=>i=bd) (w.alloc (.cells #[.string ⟨#[]⟩,.int .i64 0,.bool false,.int .i64 0,.int .i64 0] 109)) w'):=by have:=dx (w.alloc (.cells #[.string ⟨#[]⟩,.int .i64 0,.bool false,.int .i64 0,.int .i64 0] 109)) bs bd S D k (ab.kept C id) (t.kept C nF) ah P T tree n E ⟨key,9223372036854775807⟩ es bl hF K hbs;rw [O] at this;exact this
 clear ab t E hF hbs O;generalize N:(w.alloc (.cells #[.string ⟨#[]⟩,.int .i64 0,.bool false,.int .i64 0,.int .i64 0] 109))=am at*;go_enter Tryz.func50,Tryz.ntmps50;go_wp2_with fail;clear N;refine Z.mono ?_;rintro e d ⟨rfl,⟨W,M,Y,F⟩,u⟩;have ac:Hid (ze d bd S {D with reads:=W }):=F;have ag:=u.size;have Q:Hid (d.heap[w.heap.size]? =_):=(u.block _ (by omega) (by omega)).trans L.out;change Hid _ at u;clear F Z
 obtain⟨g,m,l,o,p,I,G⟩:∃(g:ByteArray) (m:Int) (l:Bool) (o p:Int),jP q=[.string g,.int .i64 m,.bool l,.int .i64 o,.int .i64 p]/\jH key q=(q.isSome&&(decide (g=key)&& !l)):=by
  cases q with
  |none=>exact⟨_,_,_,_,_,rfl,rfl⟩
  |some x=>exact⟨_,_,_,_,_,rfl,rfl⟩
 have A:Hid (jH key q=(q.isSome&&(decide (g=key)&& !l))):=G;rw [I];change Hid _ at I;clear G;generalize aC:q.isSome=f at*;have s:Hid ((d.alloc (.cells #[.string g,.int .i64 m,.bool l,.int .i64 o,.int .i64 p] 109)).heap[d.heap.size]? =some (.cells #[.string g,.int .i64 m,.bool l,.int .i64 o,.int .i64 p] 109 (0,0))):=heap_alloc_new d _;have B:Hid (Kept (λ_=>False) d (d.alloc (.cells #[.string g,.int .i64 m,.bool l,.int .i64 o,.int .i64 p] 109))):=Kept.alloc _ _ _;have aj:(d.alloc (.cells #[.string g,.int .i64 m,.bool l,.int .i64 o,.int .i64 p] 109)).heap.size=d.heap.size+1:=by simp
 go_wp2_with fail;generalize (d.alloc (.cells #[.string g,.int .i64 m,.bool l,.int .i64 o,.int .i64 p] 109))=c at*;have h:Hid (c.heap[w.heap.size]? =_):=(B.block _ (by omega) id).trans Q.out;have ax:c.cell? ⟨d.heap.size,0,none⟩=some (.string g):=cR s.out rfl;have av:c.cell? ⟨d.heap.size,1,none⟩=some (.int .i64 m):=cR s.out rfl;have aq:c.cell? ⟨d.heap.size,2,none⟩=some (.bool l):=cR s.out rfl;have an:c.cell? ⟨d.heap.size,3,none⟩=some (.int .i64 o):=cR s.out rfl;have az:c.cell? ⟨d.heap.size,4,none⟩=some (.int .i64 p):=cR s.out rfl;have ay:c.cell? ⟨w.heap.size,0,none⟩=some (.string ⟨#[]⟩):=cR h.out rfl;have aB:c.cell? ⟨w.heap.size,1,none⟩=some (.int .i64 0):=cR h.out rfl;have aw:c.cell? ⟨w.heap.size,2,none⟩=some (.bool false):=cR h.out rfl;have ap:c.cell? ⟨w.heap.size,3,none⟩=some (.int .i64 0):=cR h.out rfl;have aD:c.cell? ⟨w.heap.size,4,none⟩=some (.int .i64 0):=cR h.out rfl;have aA:=aa c w.heap.size 0 _ _ h.out;have ao:=aa c w.heap.size 1 _ _ h.out;have ar:=aa c w.heap.size 2 _ _ h.out;have aE:=aa c w.heap.size 3 _ _ h.out;have au:=aa c w.heap.size 4 _ _ h.out;have ai:¬w.heap.size=d.heap.size:=by omega
 have y:∀(H:World),H=(((((c.drew.setCell ⟨w.heap.size,0,none⟩ (.string g)).setCell ⟨w.heap.size,1,none⟩ (.int .i64 m)).setCell ⟨w.heap.size,2,none⟩ (.bool l)).setCell ⟨w.heap.size,3,none⟩ (.int .i64 o)).setCell ⟨w.heap.size,4,none⟩ (.int .i64 p))->∀(a:Act) (b:Bool),a.defers=[]->a.tmps.getD 4 undef=.pointer (some ⟨w.heap.size,0,none⟩)->a.tmps.getD 5 undef=.bool b->jH key q=b->
  bodyPost Tryz.prog Tryz.f50 (λe w'=>e=.returned (.tuple #[.agg (jP q).toArray,.bool (jH key q)])/\(∃r:Int,D.reads<=r/\r<=D.reads+14/\ze w' bd S {D with reads:=r })/\Kept (λi=>i=bd) w w') .ret a H:=by
  rintro H rfl a b t ad ae E;obtain⟨af,V⟩:=vK c.drew w.heap.size 109 _ _ _ _ _ (.string g) (.int .i64 m) (.bool l) (.int .i64 o) (.int .i64 p) (((Kept.drew (λ_=>False) c).block _ (by omega) id).trans h);refine bodyPost_ret (v:=.tuple #[.agg (jP q).toArray,.bool (jH key q)]) ?_ t ⟨rfl,⟨W,M,Y,?_⟩,?_⟩
  .have:=qW Tryz.results50 a.tmps _ w.heap.size 109 _ (0,0) _ ad af Tryz.underlying109 rfl (by kernel_rfl);rw [ae] at this;rw [I.out,E];exact this
  .exact((ac.kept B nF).kept (Kept.drew (λ_=>False) c) nF).kept V (λj U e=>by have:=X.out j U;omega)
  .exact(((((C.mono fE).trans u iL).trans B fE).trans (Kept.drew (λ_=>False) c) fE)).trans V (λj U=>.inr (by omega))
 change Hid _ at y
 cases f with
 |false=>
  go_region
  all_goals
   go_wp2;exact y _ rfl _ false rfl rfl rfl (by rw [A.out];rfl)
 |true=>
  by_cases z:g.toList=key.toList
  .have J:Hid (g=key):=yr.1 z;have R:(g.toList==key.toList)=true:=by simp [z]
   clear z;go_region_held3 (λw'=>w'.cell? ⟨d.heap.size,0,none⟩=some (.string g)/\w'.cell? ⟨d.heap.size,1,none⟩=some (.int .i64 m)/\w'.cell? ⟨d.heap.size,2,none⟩=some (.bool l)/\w'.cell? ⟨d.heap.size,3,none⟩=some (.int .i64 o)/\w'.cell? ⟨d.heap.size,4,none⟩=some (.int .i64 p)) (go_keep) (fail)
   all_goals
    go_wp2;exact y _ rfl _ (!l) rfl rfl rfl (by rw [A.out,J.out];simp)
  .have J:Hid (¬g=key):=mt yr.2 z;have R:(g.toList==key.toList)=false:=by simpa using z
   clear z
   go_region
   all_goals
    go_wp2;exact y _ rfl _ false rfl rfl rfl (by rw [A.out];simp [J.out])
end prog
namespace prog
open Go.ChangeShapes Go.WideShapes Go.ChangeAt Go.RowKit disk ref
open keys (zg zd zq zl)
attribute [local go_sem] Oper.semAt_some
variable {pre:List BP}
theorem Qu(w:World)(T:TypeId)(a:Addr)(b:Nat):Calls Tryz.prog 72 #[.iface T (.pointer (some a)),.int .i64 b] w λe w'=>
 e=.returned (.func (.func 124) #[] #[.pointer (some ⟨w.heap.size+1,0,none⟩),.pointer (some ⟨w.heap.size,0,none⟩)])/\w'.heap[w.heap.size+1]? =some (.cells #[.int .i64 (b:Int)] 3 (0,0))/\w'.heap[w.heap.size]? =some (.cells #[.iface T (.pointer (some a))] 193 (0,0))/\Kept (λ_=>False) w w'/\w'.heap.size=w.heap.size+2:=by
 go_enter Tryz.func72,Tryz.ntmps72;go_wp2;go_ret;exact⟨rfl,heap_alloc2_new w _ _,((Kept.alloc (λ_=>False) _ _).block w.heap.size (by simp) id).trans (heap_alloc_new w _),Kept.alloc2 _ _ _,by simp⟩
def Z4(pre:List BP):List UInt8:=(pre.map λx=>x.p.l).flatten
theorem XE(pre:List BP)(x:BP):Z4 (pre++[x])=Z4 pre++x.p.l:=by simp [Z4]
theorem Ba{ps:List zv}{x:BP}(h:(pre.map BP.p++[x.p])<+:ps):(Z4 pre).length+x.p.l.length<=((ps.map zv.l).flatten).length:=by
 obtain⟨z,rfl⟩:=h;have e:Z4 pre=((pre.map BP.p).map zv.l).flatten:=by simp [Z4,lB];rfl
 rw [e];simp only [eh,aY,aT,im,eo,lX,aM,ah];omega
theorem Bb{ps:List zv}(h:pre.map BP.p=ps):Z4 pre=(ps.map zv.l).flatten:=by
 rw [<-h,lB];rfl
structure Va (w1:World) (bd:Nat) (S:Nat->Prop) (D:Dk) (b2 b5 g cap:Nat) (r:Int) (pre:List BP) (Q:Nat->Prop) (A:World):Prop where
 q:∀k,¬Q k
 disk:ze A bd S {D with reads:=r}
 rd:D.reads<=r
 box:A.heap[b2]? =some (.cells #[.iface 29 (.pointer (some ⟨bd,0,none⟩))] 193 (0,0))
 sl:A.heap[b5]? =some (.cells #[.slice (some ⟨g,0,none⟩) (Z4 pre).length cap] 35 (0,0))
 row:A.ownsRow 0 5 1 (.slice (some ⟨g,0,none⟩) (Z4 pre).length cap) (Z4 pre).length ((Z4 pre).map qk)
 kept:Kept (λk=>k=bd\/k=b5\/k=g\/w1.heap.size<=k) w1 A
theorem Va.by{a:World}{bd:Nat}{S:Nat->Prop}{D:Dk}{d c g cap:Nat}{r l:Int}{Q q:Nat->Prop}{A B:World}(h:Va a bd S D d c g cap r pre Q A)(f:Kept q A B)(e:∀k,q k->k=bd\/a.heap.size<=k)(m:ze B bd S {D with reads:=l })(n:r<=l)(s:d<a.heap.size/\d≠bd)(t:c<a.heap.size/\c≠bd)(u:g<a.heap.size/\g≠bd):Va a bd S D d c g cap l pre Q B:=
 ⟨h.q,m,lU h.rd n,(f.block _ (lT h.box) (λb=>by have:=e _ b;omega)).trans h.box,(f.block _ (lT h.sl) (λb=>by have:=e _ b;omega)).trans h.sl,
  f.owns h.row (λj p b=>by simp [Value.ownBlock] at p;have:=e _ b;omega),h.kept.trans f (λi o=>.inl (by have:=e i o;omega))⟩
theorem XF{A:World}{g next:Nat}{l:List UInt8}(h:yd A g (qC next l)):∀j u,(l.map qk)[j]? =some u->A.cell? (Addr.add ⟨g,4,none⟩ j)=some u:=by
 intro j u b;have a:j<l.length:=by have:=(aW.1 b).1;simpa using this
 have e:(qC next l).bytes.drop 4=l++List.replicate (124-(qC next l).items.length*zm (qC next l).kind) 0:=by rw [Pg.behind];congr 1;exact db l
 have i:=h.ok.len
 have d:4+j<(qC next l).bytes.length:=by have:=et List.length e;simp at this;omega
 have:=h.bs.cell (4+j) d
 have k:(qC next l).bytes[4+j]=l[j]:=by
  have c:((qC next l).bytes.drop 4)[j]? =some l[j]:=by rw [e,eW a,aI a]
  rw [mc,aI d] at c;simpa using c
 rw [k] at this;have f:Addr.add ⟨g,4,none⟩ j=⟨g,4+j,none⟩:=eO _ _ _;rw [f,this];rw [mp,aI a] at b;simpa [qk] using b
theorem Tryz.infoU8b:(Tryz.prog.info? 5).map (λi=>(i.zero,i.size,i.bytes))=some (some (.int .u8 0),1,1):=by kernel_rfl
theorem vA(w:World)(bs bd:Nat)(S:Nat->Prop)(D:Dk)(k:Int)(aA:zt w bs k (some bd))(N:ze w bd S D)(bg:¬S bs)(a8:0<=D.reads)(ba:D.reads<=4611686018427360000)(e:En)(ps:List zv)(z:xE (λj=>D.look (j:Nat)) ps)(am:(ps.map zv.at_).Nodup)(Y:jf ps=e.at_)(l:List UInt8)(au:(ps.map zv.l).flatten=l)(y:l.length=e.size)(a6:e.size<=300)(aQ:ps.length<=1000):
 Calls Tryz.prog 51 #[.pointer (some ⟨bs,0,none⟩),.agg (qE e).toArray] w λx w'=>(∃a cap,x=.returned (.slice a l.length cap)/\w'.ownsRow 0 5 1 (.slice a l.length cap) l.length (l.map qk)/\∀j,(Value.slice a l.length cap).ownBlock=some j->w.heap.size<=j)/\(∃r:Int,D.reads<=r/\r<=D.reads+ps.length/\ze w' bd S {D with reads:=r })/\Kept (λi=>i=bd) w w':=by
 have a5:Hid (ze w bd S D):=N;have al:=aA.c2;have hbs:=aA.lt;have bb:=N.lt bd N.bdS;have H:Hid _:=N.lt;change Hid _ at aA z am au Y;clear N;refine yT Tryz.func51 rfl ?_;simp only [Tryz.ntmps51,aw,ae,ix,Nat.reduceAdd,Nat.reduceSub,iX,iY,lp,i7,aH,a9];unfold qE;obtain⟨T,F,ac,I,X⟩:=info_parts Tryz.infoU8b
 obtain⟨t,ao,aT⟩:∃t:Array Value,t.size=e.size*1/\∀s:World,(Instr.makeSlice 35 (.int .i64 0) (.int .i64 (e.size:Int))).run Tryz.prog s=.ok (.slice (some ⟨s.heap.size,0,none⟩) 0 e.size) (s.alloc (.cells t 5)):=by refine⟨_,size_madeCells (Value.int .u8 0).cells (e.size*1),λs=>?_⟩;have:=run_make (P:=Tryz.prog) s 35 5 T _ Tryz.underlying35 F ac .i64 .i64 0 (e.size:Int) (by omega) (by omega) (by rw [X];omega) (by omega);rw [I] at this;simpa using this
 have W:Hid (Tryz.prog.info? 5=some T/\T.size=1):=⟨F,I⟩;clear F ac I X;go_wp2_with fail;obtain⟨aB,aC,aq,k3,aV⟩:=uS w (.cells #[.string e.pl.key,.int .i64 e.pl.num,.bool e.mark,.int .i64 (e.size:Int),.int .i64 (e.at_:Int)] 109) (.cells t 5) (.cells #[.slice (some ⟨w.heap.size+1,0,none⟩) 0 e.size] 35);change Hid _ at aB aC aq k3 ao;clear aT;generalize (((w.alloc (.cells #[.string e.pl.key,.int .i64 e.pl.num,.bool e.mark,.int .i64 (e.size:Int),.int .i64 (e.at_:Int)] 109)).alloc (.cells t 5)).alloc (.cells #[.slice (some ⟨w.heap.size+1,0,none⟩) 0 e.size] 35))=s at*;have an:=(k3.cell (a:=⟨bs,2,none⟩) hbs id).trans al;have af:s.cell? ⟨w.heap.size,4,none⟩=some (.int .i64 (e.at_:Int)):=cR aB.out rfl;have ax:bs<s.heap.size:=by omega
 have az:w.heap.size<s.heap.size:=by omega
 clear al;go_region_held3 (λw'=>w'.cell? ⟨bs,2,none⟩=some (.pointer (some ⟨bd,0,none⟩))/\w'.cell? ⟨w.heap.size,4,none⟩=some (.int .i64 (e.at_:Int))) (go_keep) ((go_at_call 72;refine(Qu _ 29 ⟨bd,0,none⟩ e.at_).mono ?_;rintro x m ⟨rfl,R,O,o,aM⟩;have aS:=(o.cell (a:=⟨bs,2,none⟩) ax id).trans an;have aL:=(o.cell (a:=⟨w.heap.size,4,none⟩) az id).trans af;change Hid _ at R O o));have aR:s.drew.heap.size=s.heap.size:=rfl;rw [aR,aV] at R O aM;have V:Hid (Kept (λ_=>False) w m):=(k3.trans (Kept.drew (λ_=>False) s) iL).trans o iL;have K:Hid _:=(Kept.drew (λ_=>False) s).trans o iL;have aU:Hid (ze m bd S D):=a5.kept V nF;have aF:Hid (m.heap[w.heap.size+2]? =_):=(K.block _ (by omega) id).trans aq.out;have aG:Hid (m.ownsRow 0 5 1 (.slice (some ⟨w.heap.size+1,0,none⟩) 0 e.size) 0 []):=⟨by simp,.inr ⟨w.heap.size+1,e.size,t,rfl,ai _,(K.block _ (by omega) id).trans aC,by omega,by unfold maxLen;omega,ao,by simp⟩⟩;clear an af aS aL aB aC aq;go_wp2_with fail;have aI:Hid _:=H.out
 have ap:Hid (∀L,Kept (λ_=>False) m L->L.heap.size=m.heap.size+2->gi Tryz.prog 124 #[.pointer (some ⟨w.heap.size+3+1,0,none⟩),.pointer (some ⟨w.heap.size+3,0,none⟩)] VU (λk=>k=bd) (λr _ A=>ze A bd S {D with reads:=r}/\A.heap[w.heap.size+3]? =some (.cells #[.iface 29 (.pointer (some ⟨bd,0,none⟩))] 193 (0,0))/\D.reads<=r) (λr pre x A=>K3 (m.heap.size+2) ps pre x A/\r<=D.reads+pre.length+1) (λr ay=>ay.map BP.p=ps/\r<=D.reads+ps.length) (λ_ _=>True) D.reads L):=λL b y=>by
  have:=Qp L 29 81 ⟨bd,0,none⟩ (da _) (w.heap.size+3+1) (w.heap.size+3) ps (λj=>D.look (j:Nat)) z am (λk=>k=bd) (λr _ A=>ze A bd S {D with reads:=r}/\A.heap[w.heap.size+3]? =some (.cells #[.iface 29 (.pointer (some ⟨bd,0,none⟩))] 193 (0,0))/\D.reads<=r) D.reads (λk b=>by rw [b];omega)
   (by rw [Y.out];exact(b.block _ (by omega) id).trans R) (λr pre A h=>h.2.1)
   (λr pre A B h b=>⟨h.1.kept b nF,(b.block _ (lT h.2.1) id).trans h.2.1,h.2.2⟩)
   (λi f r pre A h a3 aj=>by
    refine(kg A bd S {D with reads:=r} h.1 _ (by have:=(z.ok _ (ag f)).at_;constructor<;>omega) (by show 0<=r;omega) (by show r<=_;omega)).mono ?_;rintro x bf ⟨rfl,aY,aE⟩
    exact⟨rfl,aE,r+1,by omega,by omega,aY,(aE.block _ (lT h.2.1) (by omega)).trans h.2.1,by omega⟩)
  rw [y] at this;exact this
 refine vx (α:=BP) (gf:= 124) (lb:=#[.pointer (some ⟨w.heap.size+3+1,0,none⟩),.pointer (some ⟨w.heap.size+3,0,none⟩)]) rfl (enters_of Tryz.func124 (by kernel_rfl) rfl) ap.out
  (λk b=>by rw [b];omega) (λ_=>rfl)
  (Va m bd S D (w.heap.size+3) (w.heap.size+2) (w.heap.size+1) e.size) (λc r pre A=>False)
  (λr pre Q A h=>⟨⟨h.disk,h.box,h.rd⟩,λk b=>(h.q k b).elim⟩)
  (λr be pre Q A B h a0 b f=>h.by b (λk b=>.inl b) f.1 a0 (by omega) (by omega) (by omega))
  (λr pre Q A B h b=>h.by b (λk b=>.inr (by omega)) (h.disk.kept b (λj d aX=>by have:=aI.out j d;omega)) (eD _) (by omega) (by omega) (by omega))
  (λc r pre A B h b=>h)
  ⟨λ_ h=>h,aU,eD _,O,aF,aG,Kept.refl _ _⟩
  (λx aJ A=>aJ={tmps:=#[.pointer (some ⟨bs,0,none⟩),.agg #[.string e.pl.key,.int .i64 e.pl.num,.bool e.mark,.int .i64 (e.size:Int),.int .i64 (e.at_:Int)],undef,.pointer (some ⟨w.heap.size,0,none⟩),.slice none 0 0,.pointer (some ⟨w.heap.size+1+1,0,none⟩),undef,.slice (some ⟨x.g,4,none⟩) x.p.l.length 124,.pointer (some ⟨w.heap.size,3,none⟩),.int .i64 (e.size:Int),.slice (some ⟨w.heap.size+1,0,none⟩) 0 e.size,.pointer (some ⟨bs,0,none⟩),.pointer (some ⟨bs,0,none⟩),.pointer (some ⟨bs,2,none⟩),.pointer (some ⟨bd,0,none⟩),.iface 29 (.pointer (some ⟨bd,0,none⟩)),.pointer (some ⟨w.heap.size,4,none⟩),.int .i64 (e.at_:Int),.func (.func 124) #[] #[.pointer (some ⟨w.heap.size+3+1,0,none⟩),.pointer (some ⟨w.heap.size+3,0,none⟩)],.int .i64 (x.p.at_:Int),.slice (some ⟨x.g,4,none⟩) x.p.l.length 124,undef,undef,undef,undef],defers:=[] })
  (λx a A B h b=>h)
  (λr pre x A B h b=>⟨⟨h.1.pre,by obtain⟨aN,aQ⟩:=h.1.pg;exact⟨aN,aQ.kept b (by have:=h.1.ge;omega)⟩,h.1.ge⟩,h.2⟩) ?assign ?body ?done ?stop
 case assign=>
  intro a4 r pre x Q A bh f M aP J;dsimp only [VU];gi_wp2;exact J _ _ (Kept.refl _ _) f M rfl
 case body=>
  rintro a4 r pre x Q aJ A f M rfl aP;have g:Hid _:=f;obtain⟨aN,ad⟩:=M.1.pg;have ar:(Z4 pre).length+x.p.l.length<=e.size:=by have:=Ba M.1.pre;rw [au.out] at this;omega
  have a1:A.cell? ⟨w.heap.size+1+1,0,none⟩=some (.slice (some ⟨w.heap.size+1,0,none⟩) (Z4 pre).length e.size):=cR f.sl rfl;change Hid _ at ad;clear f M;gi_wp2_with (gi_at_builtin;refine wpListIn_append_fits _ rfl _ _ 35 rfl 0 5 T 1 Tryz.underlying35 W.1 W.2 (w.heap.size+1) (Z4 pre).length e.size ((Z4 pre).map qk) rfl g.row ⟨x.g,4,none⟩ x.p.l.length 124 (x.p.l.map qk) rfl (by simp) (XF ad) (uG _) ar ?_;intro u G q;have Z:Hid _:=Kept.grown q (λk b=>(aK b).symm);have C:Hid (u.heap[w.heap.size+2]? =_):=(Z.block _ (by omega) (by omega)).trans g.sl;have bc:u.cell? ⟨w.heap.size+1+1,0,none⟩=some (.slice (some ⟨w.heap.size+1,0,none⟩) (Z4 pre).length e.size):=(cR C.out rfl);have a7:u.frozen? ⟨w.heap.size+1+1,0,none⟩=false:=aa u (w.heap.size+2) 0 _ _ C.out;change Hid _ at G;clear q);have aO:=Kept.setCell (S:=λj=>j=w.heap.size+2) u ⟨w.heap.size+2,0,none⟩ (.slice (some ⟨w.heap.size+1,0,none⟩) ((Z4 pre).length+x.p.l.length) e.size) rfl;have aZ:=heap_setCell_same u (w.heap.size+2) 0 _ _ (.slice (some ⟨w.heap.size+1,0,none⟩) ((Z4 pre).length+x.p.l.length) e.size) C.out;have n:=(Z.mono (S':=λj=>j=w.heap.size+1\/j=w.heap.size+2) iL).trans aO (λ_ h=>.inl (.inr h));have v:(Z4 (pre++[x])).length=(Z4 pre).length+x.p.l.length:=by rw [XE,ah]
  refine⟨n.mono (λj d=>.inl (by omega)),Q,⟨g.q,g.disk.kept n (λj d aX=>by have:=H.out j d;omega),g.rd,(n.block _ (lT g.box) (by omega)).trans g.box,?_,?_,g.kept.trans n (λj d=>.inl (by omega))⟩,λk b=>.inl b⟩;.rw [v];exact aZ
  .rw [v,XE,eh];exact aO.owns G (λj d aD=>by simp [Value.ownBlock] at d;omega)
 case done=>
  rintro aW r ay Q A U f rfl J;have g:Hid _:=f;have p:=(Bb U.1).trans au.out;have aj:=U.2;have a2:Hid _:=J;have ab:(Z4 ay).length=l.length:=by rw [p]
  have a1:A.cell? ⟨w.heap.size+1+1,0,none⟩=some (.slice (some ⟨w.heap.size+1,0,none⟩) l.length e.size):=by rw [ak A _ 0 _ _ _ f.sl,ab];rfl
  change Hid _ at p;clear f U J ab;dsimp only;go_wp2;have av:Kept (λk=>k=m.heap.size) A (A.putObj m.heap.size (.deferred none)):=Kept.putObj _ _ _ rfl;have E:=g.row;rw [p.out] at E;refine j8 rfl a2 (results_tmp rfl _ _ _) ⟨⟨some ⟨w.heap.size+1,0,none⟩,e.size,by rw [y];rfl,av.owns E (λj d aD=>by simp [Value.ownBlock] at d;omega),λj d=>by simp [Value.ownBlock] at d;omega⟩,⟨r,g.rd,aj,g.disk.kept av (λj d aD=>by have:=H.out j d;omega)⟩,?_⟩
  exact((V.mono (S':=λi=>i=bd) fE).trans g.kept (λj d=>by
   rcases d with h|h|h|h;.exact .inl h
   .exact .inr (by omega)
   .exact .inr (by omega)
   .exact .inr (by omega))).trans av (λj d=>.inr (by omega))
 case stop=>
  rintro aW c r pre A U f rfl J;exact f.elim
end prog
namespace prog
open Go.ChangeShapes Go.WideShapes Go.ChangeAt Go.RowKit disk ref
open Go.MuLone
open keys (zg zd zq zl zh)
theorem qh{w:World}{bs:Nat}{q:Option Nat}(h:zt w bs 1 q):CallsD Tryz.prog 48 #[.pointer (some ⟨bs,0,none⟩)] .returning w λe u' w'=>u'=.returning/\e=.returned (.tuple #[])/\zt w' bs 0 q/\Kept (λk=>k=bs) w w':=
 (unlock_deferred Tryz.muLib ⟨bs,0,none⟩ .returning w h.c0 (h.fz 0)).mono (by
  rintro e u' w' ⟨rfl,rfl,rfl⟩
  exact⟨rfl,rfl,h.set 0,Kept.setCell (S:=λk=>k=bs) w ⟨bs,0,none⟩ _ rfl⟩)
theorem qj{w:World}{bs:Nat}{q:Option Nat}(h:zt w bs 0 q):Calls Tryz.prog 47 #[.pointer (some ⟨bs,0,none⟩)] w λe w'=>e=.returned (.tuple #[])/\zt w' bs 1 q/\Kept (λk=>k=bs) w w':=
 (lock_free Tryz.muLib ⟨bs,0,none⟩ w h.c0 (h.fz 0)).mono (by
  rintro e w' ⟨rfl,rfl⟩
  exact⟨rfl,h.set 1,Kept.setCell (S:=λk=>k=bs) w ⟨bs,0,none⟩ _ rfl⟩)
theorem results_tmp3{P:Program}{fn:Func}{a b c:Tmp}(h:fn.results=#[.tmp a,.tmp b,.tmp c])(tmps:Array Value)(w:World):(results fn tmps).run P w=.ok (.tuple #[tmps.getD a undef,tmps.getD b undef,tmps.getD c undef]) w:=by
 simp [results,h]
theorem Vb(w:World)(bs:Nat)(q:Option Nat)(i:zt w bs 0 q)(key:ByteArray)(m:key.size<=maxLen)(a:zh key.data.toList=false):
 Calls Tryz.prog 26 #[.pointer (some ⟨bs,0,none⟩),.string key] w λe w'=>e=.returned (.tuple #[.slice none 0 0,.int .i64 0,.int .i64 2])/\zt w' bs 0 q/\Kept (λk=>k=bs) w w':=by
 change Hid _ at i a;go_enter_defers Tryz.func26,Tryz.ntmps26
 go_wp2_with (first
  |(go_at_call 47;refine(qj i).mono ?_;rintro e l ⟨rfl,b,c⟩;change Hid _ at b c)
  |(go_at_call 49;refine(keys.qu key l m).mono ?_;rintro e j ⟨rfl,d⟩;rw [d,a.out];clear d j))
 refine leaves_cons (f:= 48) (args:=#[.pointer (some ⟨bs,0,none⟩)]) (by simp) (by simp [go_sem]) ?_;refine(qh b).mono ?_;rintro e u' j ⟨rfl,rfl,h,g⟩;exact⟨_,results_tmp3 Tryz.results26 _ _,rfl,h,c.trans g iL⟩
theorem GP(w:World)(bs:Nat)(i:zt w bs 0 none)(key:ByteArray)(m:key.size<=maxLen)(b:zh key.data.toList=true):
 Calls Tryz.prog 26 #[.pointer (some ⟨bs,0,none⟩),.string key] w λe w'=>e=.returned (.tuple #[.slice none 0 0,.int .i64 0,.int .i64 8])/\zt w' bs 0 none/\Kept (λk=>k=bs) w w':=by
 change Hid _ at i b;go_enter_defers Tryz.func26,Tryz.ntmps26
 go_wp2_with (first
  |(go_at_call 47;refine(qj i).mono ?_;rintro e l ⟨rfl,a,c⟩;have n:=a.c2;change Hid _ at a c)
  |(go_at_call 49;refine(keys.qu key l m).mono ?_;rintro e j ⟨rfl,d⟩;rw [d,b.out];clear d j))
 refine leaves_cons (f:= 48) (args:=#[.pointer (some ⟨bs,0,none⟩)]) (by simp) (by simp [go_sem]) ?_;refine(qh a).mono ?_;rintro e u' j ⟨rfl,rfl,h,g⟩;exact⟨_,results_tmp3 Tryz.results26 _ _,rfl,h,c.trans g iL⟩
structure WG (w w':World) (x:Value) (l:List UInt8):Prop where
 at_:∃a cap,x=.slice a l.length cap/\w'.ownsRow 0 5 1 (.slice a l.length cap) l.length (l.map qk)/\∀k,(Value.slice a l.length cap).ownBlock=some k->w.heap.size<=k
theorem GQ(w:World)(bs bd:Nat)(S:Nat->Prop)(D:Dk)(V:zt w bs 0 (some bd))(E:ze w bd S D)(G:¬S bs)(T:0<=D.reads)(ae:D.reads<=4611686018427350000)(tree n:Nat)(P:yi (D.look 1) tree n)(key:ByteArray)(Z:key.size<=maxLen)(c:zh key.data.toList=true)(es:List En)(bl:List Nat)(hF:yo (λj=>D.look (j:Nat)) tree es bl)(K:bl.length<=979)(hbs:∀j∈bl,21<=j)(m:Option En)(R:(xn ⟨key,9223372036854775807⟩ es).head? =m)(d:jH key m=false):
 Calls Tryz.prog 26 #[.pointer (some ⟨bs,0,none⟩),.string key] w λe w'=>e=.returned (.tuple #[.slice none 0 0,.int .i64 0,.int .i64 5])/\zt w' bs 0 (some bd)/\(∃r:Int,D.reads<=r/\r<=D.reads+14/\ze w' bd S {D with reads:=r })/\Kept (λk=>k=bd\/k=bs) w w':=by
 have ad:Hid (ze w bd S D):=E;have N:Hid (zh key.data.toList=true):=c;have F:Hid (jH key m=false):=d;have L:bs≠bd:=λe=>G (by rw [e];exact E.bdS);have U:Hid (∀j,S j->j≠bs):=λj ab e=>G (by rw [<-e];exact ab);have Q:Hid (∀w',zt w' bs 1 (some bd)->ze w' bd S D->Calls Tryz.prog 50 #[.pointer (some ⟨bs,0,none⟩),.string key] w' λe B=>e=.returned (.tuple #[.agg (jP m).toArray,.bool (jH key m)])/\(∃r:Int,D.reads<=r/\r<=D.reads+14/\ze B bd S {D with reads:=r })/\Kept (λi=>i=bd) w' B):=λw' aa Y=>xV w' bs bd S D 1 aa Y G T (by omega) tree n P key es bl hF K hbs m R
 obtain⟨s,o,p,l,q,X⟩:∃(s:ByteArray) (o:Int) (p:Bool) (l q:Int),jP m=[.string s,.int .i64 o,.bool p,.int .i64 l,.int .i64 q]:=by
  cases m with
  |none=>exact⟨_,_,_,_,_,rfl⟩
  |some x=>exact⟨_,_,_,_,_,rfl⟩
 have ac:Hid (jP m=[.string s,.int .i64 o,.bool p,.int .i64 l,.int .i64 q]):=X;change Hid _ at V;clear E P hF hbs R c X d;go_enter_defers Tryz.func26,Tryz.ntmps26
 go_wp2_with (first
  |(go_at_call 47;refine(qj V).mono ?_;rintro e b ⟨rfl,a,v⟩;have z:Hid (Kept (λk=>k=bs) w b):=v;have ag:b.cell? ⟨bs,2,none⟩=some (.pointer (some ⟨bd,0,none⟩)):=a.c2;change Hid _ at a;clear v)
  |(go_at_call 49;refine(keys.qu key b Z).mono ?_;rintro e g ⟨rfl,y⟩;rw [y,N.out];clear y g)
  |(go_at_call 50;refine(Q b a (ad.kept z U)).mono ?_;rintro e g ⟨rfl,⟨W,H,I,t⟩,u⟩;rw [ac.out,F.out];have O:Hid (ze g bd S {D with reads:=W }):=t;have A:Hid (Kept (λi=>i=bd) b g):=u;clear t u))
 refine leaves_cons (f:= 48) (args:=#[.pointer (some ⟨bs,0,none⟩)]) (by simp) (by simp [go_sem]) ?_;have J:=Kept.alloc (λ_=>False) g (.cells #[.string s,.int .i64 o,.bool p,.int .i64 l,.int .i64 q] 109);refine(qh ((a.kept A L).kept J id)).mono ?_;rintro e u' af ⟨rfl,rfl,M,C⟩;exact⟨_,results_tmp3 Tryz.results26 _ _,rfl,M,⟨W,H,I,(O.kept J nF).kept C U⟩,(((z.mono (S':=λk=>k=bd\/k=bs) (λ_ h=>.inr h)).trans A (λ_ h=>.inl (.inl h))).trans J fE).trans C (λ_ h=>.inl (.inr h))⟩
theorem GR(w:World)(bs bd:Nat)(S:Nat->Prop)(D:Dk)(ab:zt w bs 0 (some bd))(B:ze w bd S D)(H:¬S bs)(am:0<=D.reads)(aM:D.reads<=4611686018427350000)(tree n:Nat)(aj:yi (D.look 1) tree n)(key:ByteArray)(aF:key.size<=maxLen)(u:zh key.data.toList=true)(es:List En)(bl:List Nat)(hF:yo (λj=>D.look (j:Nat)) tree es bl)(ad:bl.length<=979)(hbs:∀j∈bl,21<=j)(x:En)(al:(xn ⟨key,9223372036854775807⟩ es).head? =some x)(G:jH key (some x)=true)
 (ps:List zv) (P:xE (λj=>D.look (j:Nat)) ps) (V:(ps.map zv.at_).Nodup) (N:jf ps=x.at_) (l:List UInt8) (an:(ps.map zv.l).flatten=l) (L:l.length=x.size) (ae:x.size<=300) (aX:ps.length<=10):
 Calls Tryz.prog 26 #[.pointer (some ⟨bs,0,none⟩),.string key] w λe w'=>(∃a cap,e=.returned (.tuple #[.slice a l.length cap,.int .i64 x.pl.num,.int .i64 0])/\w'.ownsRow 0 5 1 (.slice a l.length cap) l.length (l.map qk)/\∀k,(Value.slice a l.length cap).ownBlock=some k->w.heap.size<=k)/\zt w' bs 0 (some bd)/\(∃r:Int,D.reads<=r/\r<=D.reads+14+ps.length/\ze w' bd S {D with reads:=r })/\Kept (λk=>k=bd\/k=bs) w w':=by
 have aJ:Hid (ze w bd S D):=B;have af:Hid (zh key.data.toList=true):=u;have Y:Hid (jH key (some x)=true):=G;have aN:bd<w.heap.size:=B.lt bd B.bdS;have aK:=ab.lt;have J:bs≠bd:=λe=>H (by rw [e];exact B.bdS);have ao:Hid (∀j,S j->j≠bs):=λj A e=>H (by rw [<-e];exact A);have ai:Hid (∀w',zt w' bs 1 (some bd)->ze w' bd S D->Calls Tryz.prog 50 #[.pointer (some ⟨bs,0,none⟩),.string key] w' λe m=>e=.returned (.tuple #[.agg (jP (some x)).toArray,.bool (jH key (some x))])/\(∃r:Int,D.reads<=r/\r<=D.reads+14/\ze m bd S {D with reads:=r })/\Kept (λi=>i=bd) w' m):=λw' aa X=>xV w' bs bd S D 1 aa X H am (by omega) tree n aj key es bl hF ad hbs _ al;have T:Hid (∀w' (r:Int),zt w' bs 1 (some bd)->ze w' bd S {D with reads:=r}->0<=r->r<=4611686018427360000->Calls Tryz.prog 51 #[.pointer (some ⟨bs,0,none⟩),.agg (qE x).toArray] w' λaU m=>(∃a cap,aU=.returned (.slice a l.length cap)/\m.ownsRow 0 5 1 (.slice a l.length cap) l.length (l.map qk)/\∀j,(Value.slice a l.length cap).ownBlock=some j->w'.heap.size<=j)/\(∃Z:Int,r<=Z/\Z<=r+ps.length/\ze m bd S {D with reads:=Z })/\Kept (λi=>i=bd) w' m):=λw' r aa X ay aw=>vA w' bs bd S {D with reads:=r} 1 aa X H ay aw x ps P V N l an L ae (by omega);change Hid _ at ab;clear B aj hF hbs al u G P V N an L;have M:jP (some x)=[.string x.pl.key,.int .i64 x.pl.num,.bool x.mark,.int .i64 (x.size:Int),.int .i64 (x.at_:Int)]:=rfl;have ak:Hid (jP (some x)=[.string x.pl.key,.int .i64 x.pl.num,.bool x.mark,.int .i64 (x.size:Int),.int .i64 (x.at_:Int)]):=M;clear M;go_enter_defers Tryz.func26,Tryz.ntmps26
 go_wp2_with (first
  |(go_at_call 47;refine(qj ab).mono ?_;rintro e C ⟨rfl,s,R⟩;have v:Hid (Kept (λk=>k=bs) w C):=R;have aT:C.cell? ⟨bs,2,none⟩=some (.pointer (some ⟨bd,0,none⟩)):=s.c2;change Hid _ at s;clear R)
  |(go_at_call 49;refine(keys.qu key C aF).mono ?_;rintro e b ⟨rfl,K⟩;rw [K,af.out];clear K b)
  |(go_at_call 50;refine(ai C s (aJ.kept v ao)).mono ?_;rintro e b ⟨rfl,⟨ac,aB,aH,I⟩,Q⟩;rw [ak.out,Y.out];have ag:Hid (ze b bd S {D with reads:=ac }):=I;have y:Hid (Kept (λi=>i=bd) C b):=Q;clear I Q))
 have z:Hid (Kept (λ_=>False) b (b.alloc (.cells #[.string x.pl.key,.int .i64 x.pl.num,.bool x.mark,.int .i64 (x.size:Int),.int .i64 (x.at_:Int)] 109))):=Kept.alloc _ _ _;have o:Hid ((b.alloc (.cells #[.string x.pl.key,.int .i64 x.pl.num,.bool x.mark,.int .i64 (x.size:Int),.int .i64 (x.at_:Int)] 109)).heap[b.heap.size]? =some (.cells #[.string x.pl.key,.int .i64 x.pl.num,.bool x.mark,.int .i64 (x.size:Int),.int .i64 (x.at_:Int)] 109 (0,0))):=heap_alloc_new b _;have aQ:(b.alloc (.cells #[.string x.pl.key,.int .i64 x.pl.num,.bool x.mark,.int .i64 (x.size:Int),.int .i64 (x.at_:Int)] 109)).heap.size=b.heap.size+1:=by simp
 generalize (b.alloc (.cells #[.string x.pl.key,.int .i64 x.pl.num,.bool x.mark,.int .i64 (x.size:Int),.int .i64 (x.at_:Int)] 109))=c at*;have aP:=v.size;have aL:=y.size;have W:Hid (zt c bs 1 (some bd)):=(s.kept y J).kept z id;have ah:Hid (ze c bd S {D with reads:=ac }):=ag.kept z nF;have aD:c.cell? ⟨b.heap.size,0,none⟩=some (.string x.pl.key):=cR o.out rfl;have aC:c.cell? ⟨b.heap.size,1,none⟩=some (.int .i64 x.pl.num):=cR o.out rfl;have aA:c.cell? ⟨b.heap.size,2,none⟩=some (.bool x.mark):=cR o.out rfl;have av:c.cell? ⟨b.heap.size,3,none⟩=some (.int .i64 (x.size:Int)):=cR o.out rfl;have aE:c.cell? ⟨b.heap.size,4,none⟩=some (.int .i64 (x.at_:Int)):=cR o.out rfl;have p:b.heap.size<c.heap.size:=by omega
 have d:¬b.heap.size=bd:=by omega
 unfold qE at T;go_wp2_with fail;go_region_held3 (λw'=>w'.cell? ⟨b.heap.size,0,none⟩=some (.string x.pl.key)/\w'.cell? ⟨b.heap.size,1,none⟩=some (.int .i64 x.pl.num)/\w'.cell? ⟨b.heap.size,2,none⟩=some (.bool x.mark)/\w'.cell? ⟨b.heap.size,3,none⟩=some (.int .i64 (x.size:Int))/\w'.cell? ⟨b.heap.size,4,none⟩=some (.int .i64 (x.at_:Int))) (go_keep) ((go_at_call 51;refine(T _ ac (W.kept (Kept.drew (λ_=>False) c) id) (ah.kept (Kept.drew (λ_=>False) c) nF) (by omega) (by omega)).mono ?_;rintro e q ⟨⟨aG,ax,rfl,E,F⟩,⟨au,aI,az,O⟩,g⟩;have ap:Hid (ze q bd S {D with reads:=au }):=O;have U:Hid (Kept (λi=>i=bd) c.drew q):=g;have aV:q.cell? ⟨b.heap.size,0,none⟩=some (.string x.pl.key):=(g.cell (a:=⟨b.heap.size,0,none⟩) p d).trans aD;have aW:q.cell? ⟨b.heap.size,1,none⟩=some (.int .i64 x.pl.num):=(g.cell (a:=⟨b.heap.size,1,none⟩) p d).trans aC;have a0:q.cell? ⟨b.heap.size,2,none⟩=some (.bool x.mark):=(g.cell (a:=⟨b.heap.size,2,none⟩) p d).trans aA;have aS:q.cell? ⟨b.heap.size,3,none⟩=some (.int .i64 (x.size:Int)):=(g.cell (a:=⟨b.heap.size,3,none⟩) p d).trans av;have aY:q.cell? ⟨b.heap.size,4,none⟩=some (.int .i64 (x.at_:Int)):=(g.cell (a:=⟨b.heap.size,4,none⟩) p d).trans aE;change Hid _ at E F;clear O g))
 all_goals
  go_wp2;refine leaves_cons (f:= 48) (args:=#[.pointer (some ⟨bs,0,none⟩)]) (by simp) (by simp [go_sem]) ?_;have aq:=W.kept (Kept.drew (λ_=>False) c) id;refine(qh (aq.kept U J)).mono ?_;rintro e u' aZ ⟨rfl,rfl,ar,t⟩;have aO:c.drew.heap.size=c.heap.size:=rfl;refine⟨_,results_tmp3 Tryz.results26 _ _,⟨aG,ax,rfl,t.owns E (λj A aR=>by have:=F.out j A;omega),λj A=>by have:=F.out j A;omega⟩,ar,⟨au,by omega,by omega,ap.kept t ao⟩,?_⟩;exact(((((v.mono (S':=λk=>k=bd\/k=bs) (λ_ h=>.inr h)).trans y (λ_ h=>.inl (.inl h))).trans z fE).trans (Kept.drew (λ_=>False) c) fE).trans U (λ_ h=>.inl (.inl h))).trans t (λ_ h=>.inl (.inr h))
theorem GS(w:World)(bs:Nat)(q:Option Nat)(i:zt w bs 0 q)(key:ByteArray)(j:Int)(n:key.size<=maxLen)(a:zh key.data.toList=false):
 Calls Tryz.prog 42 #[.pointer (some ⟨bs,0,none⟩),.string key,.int .i64 j] w λe w'=>e=.returned (.tuple #[.slice none 0 0,.int .i64 2])/\zt w' bs 0 q/\Kept (λk=>k=bs) w w':=by
 change Hid _ at i a;go_enter_defers Tryz.func42,Tryz.ntmps42
 go_wp2_with (first
  |(go_at_call 47;refine(qj i).mono ?_;rintro e m ⟨rfl,b,c⟩;change Hid _ at b c)
  |(go_at_call 49;refine(keys.qu key m n).mono ?_;rintro e l ⟨rfl,d⟩;rw [d,a.out];clear d l))
 refine leaves_cons (f:= 48) (args:=#[.pointer (some ⟨bs,0,none⟩)]) (by simp) (by simp [go_sem]) ?_;refine(qh b).mono ?_;rintro e u' l ⟨rfl,rfl,h,g⟩;exact⟨_,results_tmp2 rfl _ _ _,rfl,h,c.trans g iL⟩
theorem Bc(w:World)(bs:Nat)(i:zt w bs 0 none)(key:ByteArray)(j:Int)(n:key.size<=maxLen)(b:zh key.data.toList=true):
 Calls Tryz.prog 42 #[.pointer (some ⟨bs,0,none⟩),.string key,.int .i64 j] w λe w'=>e=.returned (.tuple #[.slice none 0 0,.int .i64 8])/\zt w' bs 0 none/\Kept (λk=>k=bs) w w':=by
 change Hid _ at i b;go_enter_defers Tryz.func42,Tryz.ntmps42
 go_wp2_with (first
  |(go_at_call 47;refine(qj i).mono ?_;rintro e m ⟨rfl,a,c⟩;have o:=a.c2;change Hid _ at a c)
  |(go_at_call 49;refine(keys.qu key m n).mono ?_;rintro e l ⟨rfl,d⟩;rw [d,b.out];clear d l))
 refine leaves_cons (f:= 48) (args:=#[.pointer (some ⟨bs,0,none⟩)]) (by simp) (by simp [go_sem]) ?_;refine(qh a).mono ?_;rintro e u' l ⟨rfl,rfl,h,g⟩;exact⟨_,results_tmp2 rfl _ _ _,rfl,h,c.trans g iL⟩
def BE(key:ByteArray)(num:Int):Option En->Bool
 |some x=>decide (x.pl.key=key)&&decide (x.pl.num=num)&& !x.mark
 |none=>false
theorem at_none(w:World)(bs bd:Nat)(S:Nat->Prop)(D:Dk)(ag:zt w bs 0 (some bd))(A:ze w bd S D)(P:¬S bs)(aa:0<=D.reads)(av:D.reads<=4611686018427350000)(tree n:Nat)(W:yi (D.look 1) tree n)(key:ByteArray)(a:Int)(am:key.size<=maxLen)(v:zh key.data.toList=true)(es:List En)(bl:List Nat)(hF:yo (λj=>D.look (j:Nat)) tree es bl)(R:bl.length<=979)(hbs:∀j∈bl,21<=j)(u:Option En)(Z:(xn ⟨key,a⟩ es).head? =u)(C:BE key a u=false):
 Calls Tryz.prog 42 #[.pointer (some ⟨bs,0,none⟩),.string key,.int .i64 a] w λe w'=>e=.returned (.tuple #[.slice none 0 0,.int .i64 5])/\zt w' bs 0 (some bd)/\(∃r:Int,D.reads<=r/\r<=D.reads+14/\ze w' bd S {D with reads:=r })/\Kept (λk=>k=bd\/k=bs) w w':=by
 have ar:Hid (ze w bd S D):=A;have aw:=A.lt bd A.bdS;have T:bs≠bd:=λe=>P (by rw [e];exact A.bdS);have ac:Hid (∀j,S j->j≠bs):=λj al e=>P (by rw [<-e];exact al)
 have X:Hid (∀w',zt w' bs 1 (some bd)->ze w' bd S D->Calls Tryz.prog 66 #[.pointer (some ⟨bs,0,none⟩),.agg #[.string key,.int .i64 a]] w' λe J=>e=.returned (.tuple #[.agg (jP u).toArray,.bool u.isSome])/\(∃r:Int,D.reads<=r/\r<=D.reads+14/\ze J bd S {D with reads:=r })/\Kept (λi=>i=bd) w' J):=λw' ao ak=>by have:=dx w' bs bd S D 1 ao ak P aa (by omega) tree n W ⟨key,a⟩ es bl hF R hbs;rw [Z] at this;exact this
 obtain⟨g,d,l,B,E,ae,L⟩:∃(g:ByteArray) (d:Int) (l:Bool) (B E:Int),jP u=[.string g,.int .i64 d,.bool l,.int .i64 B,.int .i64 E]/\BE key a u=(u.isSome&&(decide (g=key)&&decide (d=a)&& !l)):=by
  cases u with
  |none=>exact⟨_,_,_,_,_,rfl,rfl⟩
  |some x=>exact⟨_,_,_,_,_,rfl,rfl⟩
 change Hid _ at L;change Hid _ at ag v C ae;clear A W hF hbs Z;go_enter_defers Tryz.func42,Tryz.ntmps42
 go_wp2_with (first
  |(go_at_call 47;refine(qj ag).mono ?_;rintro e b ⟨rfl,q,K⟩;have y:Hid (Kept (λk=>k=bs) w b):=K;have aA:=q.c2;change Hid _ at q;clear K)
  |(go_at_call 49;refine(keys.qu key b am).mono ?_;rintro e c ⟨rfl,H⟩;rw [H,v.out];clear H c))
 have s:Hid (Kept (λ_=>False) b (b.alloc (.cells #[.string key,.int .i64 a] 107))):=Kept.alloc _ _ _;have U:Hid ((b.alloc (.cells #[.string key,.int .i64 a] 107)).heap[b.heap.size]? =some (.cells #[.string key,.int .i64 a] 107 (0,0))):=heap_alloc_new b _;have ax:(b.alloc (.cells #[.string key,.int .i64 a] 107)).heap.size=b.heap.size+1:=by simp
 generalize (b.alloc (.cells #[.string key,.int .i64 a] 107))=ap at*;have ay:=y.size;refine(X ap (q.kept s id) ((ar.kept y ac).kept s nF)).mono ?_;rintro e c ⟨rfl,⟨ah,O,Q,G⟩,o⟩;have V:Hid (ze c bd S {D with reads:=ah }):=G;have au:=o.size;have M:Hid (c.heap[b.heap.size]? =_):=(o.block _ (by omega) (by omega)).trans U.out;change Hid _ at o;clear G;rw [ae.out]
 have F:Hid ((u.isSome&&(decide (g=key)&&decide (d=a)&& !l))=false):=by show (u.isSome&&(decide (g=key)&&decide (d=a)&& !l))=false;rw [<-L.out];exact C.out
 generalize u.isSome=f at*;have z:Hid (Kept (λ_=>False) c (c.alloc (.cells #[.string g,.int .i64 d,.bool l,.int .i64 B,.int .i64 E] 109))):=Kept.alloc _ _ _;have az:(c.alloc (.cells #[.string g,.int .i64 d,.bool l,.int .i64 B,.int .i64 E] 109)).heap.size=c.heap.size+1:=by simp
 have aB:c.cell? ⟨b.heap.size,0,none⟩=some (.string key):=cR M.out rfl;have aC:c.cell? ⟨b.heap.size,1,none⟩=some (.int .i64 a):=cR M.out rfl;have aj:b.heap.size<c.heap.size:=by omega
 have t:Hid (∀N:World,N=(c.alloc (.cells #[.string g,.int .i64 d,.bool l,.int .i64 B,.int .i64 E] 109))->∀tmps:Array Value,tmps.getD 6 undef=.slice none 0 0->tmps.getD 7 undef=.int .i64 5->bodyPostD Tryz.prog Tryz.f42 (λe w'=>e=.returned (.tuple #[.slice none 0 0,.int .i64 5])/\zt w' bs 0 (some bd)/\(∃r:Int,D.reads<=r/\r<=D.reads+14/\ze w' bd S {D with reads:=r })/\Kept (λk=>k=bd\/k=bs) w w') .ret {tmps:=tmps,defers:=[{target:=.fn (.func 48) #[],args:=#[.pointer (some ⟨bs,0,none⟩)] }]} N):=by
  rintro N rfl tmps aq an;refine leaves_cons (f:= 48) (args:=#[.pointer (some ⟨bs,0,none⟩)]) (by simp) (by simp [go_sem]) ?_;refine(qh (((q.kept s id).kept o T).kept z id)).mono ?_;rintro e u' aD ⟨rfl,rfl,af,I⟩;refine⟨_,results_tmp2 rfl _ _ _,?_,af,⟨ah,O,Q,(V.kept z nF).kept I ac⟩,?_⟩;.rw [aq,an]
  .exact((((y.mono (S':=λk=>k=bd\/k=bs) (λ_ h=>.inr h)).trans s fE).trans o (λ_ h=>.inl (.inl h))).trans z fE).trans I (λ_ h=>.inl (.inr h))
 cases f with
 |false=>
  go_wp2;exact t _ rfl _ rfl rfl
 |true=>
  by_cases p:g.toList=key.toList
  .have ad:(g.toList==key.toList)=true:=by simp [p]
   have ab:Hid _:=yr.1 p;clear p;by_cases m:d=a
   .have ai:(d==a)=true:=by simp [m]
    have Y:l=true:=by
     have:=F.out;rw [ab.out,m] at this;cases l;.simp at this
     .rfl
    subst Y;clear m;go_wp2;exact t _ rfl _ rfl rfl
   .have ai:(d==a)=false:=by simpa using m
    clear m;go_wp2;exact t _ rfl _ rfl rfl
  .have ad:(g.toList==key.toList)=false:=by simpa using p
   clear p;go_wp2;exact t _ rfl _ rfl rfl
end prog
namespace prog
open Go.RowKit disk ref
open law (zP)
open keys (zh)
variable {l:List En}{key:ByteArray}{x:En}
theorem Yg{l:List UInt8}(h:zh l=true):1<=l.length/\l.length<=8/\(0:UInt8)∉l:=by
 unfold zh at h;simp only [aS,aO] at h;refine⟨h.1.1,h.1.2,λb=>?_⟩;have a:=h.2;unfold keys.gF at a;rw [aQ] at a;have:=a 0 b;exact absurd this (by decide)
theorem Bd(h:zh key.data.toList=true)(k:Int):¬(⟨key,k⟩:Pl).lt yz=true:=λa=>by
 rw [Pl.lt_iff] at a;rcases a with a|⟨a,_⟩
 .have d:∀k:ByteArray,qD k yz.key=false:=by
   intro k;show qN k.data.toList []=false;cases k.data.toList<;>rfl
  rw [d] at a;cases a
 .have b:=(Yg h).1;have c:key=yz.key:=a;rw [c] at b;exact absurd b (by decide)
section
variable {bs:List (List Value)} {V:zP} {tree n:Nat} {m:List UInt8} {es:List En} {bl:List Nat} {bo:Pl->List zv}
theorem gA.ver(h:gA bs V tree n m es bl bo){v:zw}(a:v∈V.vs):∃x∈es,v=xF bo x:=by
 obtain⟨x,b,e⟩:=av.1 (h.vers.mem_iff.1 a);exact⟨x,b,e.symm⟩
theorem gA.mem(h:gA bs V tree n m es bl bo)(a:x∈es):xF bo x∈V.vs:=h.vers.mem_iff.2 (av.2 ⟨x,a,rfl⟩)
theorem xi.same(h:xi l){k:En}(j:x∈l)(i:k∈l)(e:x.pl=k.pl):x=k:=by
 induction l with
 |nil=>exact(by cases j)
 |cons a l m=>
  have d:=aR.1 h;rcases aq.1 j with g|c
  .rcases aq.1 i with f|b;.rw [g,f]
   .have:=d.1 k b;rw [<-g,e] at this;exact absurd this (Pl.irrefl _)
  .rcases aq.1 i with f|b
   .have:=d.1 x c;rw [<-f,e] at this;exact absurd this (Pl.irrefl _)
   .exact m d.2 c b
theorem xi.head_on(h:xi l){p:Pl}(c:(xn p l).head? =some x):x∈l/\x.pl.lt p=false/\∀f∈l,f.pl.lt p=false->f=x\/x.pl.lt f.pl=true:=by
 have i:xi (xn p l):=lq _ h
 cases d:xn p l with
 |nil=>rw [d] at c;cases c
 |cons a r=>
  rw [d] at c;cases c;have k:x∈xn p l:=by rw [d];exact am ..
  have e:=eA.1 k;refine⟨e.1,by simpa using e.2,λf j g=>?_⟩;have b:f∈xn p l:=eA.2 ⟨j,by rw [g];rfl⟩;rw [d] at b i;rcases aq.1 b with rfl|b;.exact .inl rfl
  .exact .inr ((aR.1 i).1 f b)
theorem Qv{p:Pl}(b:(xn p l).head? =none):∀c∈l,c.pl.lt p=true:=λc d=>by
 have:xn p l=[]:=by
  cases h:xn p l with
  |nil=>rfl
  |cons a r=>rw [h] at b;cases b
 unfold xn at this;rw [iO] at this;have:=this c d;simpa using this
theorem gA.lt_max(h:gA bs V tree n m es bl bo)(e:n<4611686018427387904){b:En}(d:b∈es)(key:ByteArray)(c:b.pl.key=key):b.pl.lt ⟨key,9223372036854775807⟩=false:=by
 cases a:b.pl.lt ⟨key,9223372036854775807⟩ with
 |false=>rfl
 |true=>
  rw [Pl.lt_iff] at a;rcases a with a|⟨_,a⟩
  .simp only [c] at a;rw [y5] at a;cases a
  .simp only at a;have:=(h.low b d).2.2.1;omega
theorem gA.new_yes(h:gA bs V tree n m es bl bo)(q:n<4611686018427387904)(o:(xn ⟨key,9223372036854775807⟩ es).head? =some x)(c:x.pl.key=key):zO V.vs key=some (xF bo x):=by
 have e:=h.forest.six.2.2;obtain⟨g,_,d⟩:=e.head_on o
 cases i:zO V.vs key with
 |none=>exact absurd c (YN i _ (h.mem g))
 |some v=>
  obtain⟨k,j,p⟩:=jc i;obtain⟨l,f,rfl⟩:=h.ver j;have b:l.pl.key=key:=k;have r:x.pl.num<=l.pl.num:=p _ (h.mem g) c;rcases d l f (h.lt_max q f key b) with rfl|a;.rfl
  .rw [Pl.lt_iff] at a;rcases a with a|⟨_,a⟩;.rw [c,b,y5] at a;cases a
   .omega
theorem gA.new_no(h:gA bs V tree n m es bl bo)(p:n<4611686018427387904)(j:∀x,(xn ⟨key,9223372036854775807⟩ es).head? =some x->x.pl.key≠key):zO V.vs key=none:=by
 have k:=h.forest.six.2.2
 cases q:zO V.vs key with
 |none=>rfl
 |some v=>
  exfalso;obtain⟨r,o,_⟩:=jc q;obtain⟨l,g,rfl⟩:=h.ver o;have b:l.pl.key=key:=r;have c:=h.lt_max p g key b
  cases f:(xn ⟨key,9223372036854775807⟩ es).head? with
  |none=>rw [Qv f l g] at c;cases c
  |some x=>
   obtain⟨s,e,i⟩:=k.head_on f;have d:=j x f;rcases i l g c with rfl|a;.exact d b
   .rw [Pl.lt_iff] at a;rcases a with a|⟨a,_⟩
    .rw [b] at a;have:x.pl.lt ⟨key,9223372036854775807⟩=true:=(Pl.lt_iff _ _).2 (.inl a);rw [this] at e;cases e
    .exact d (a.trans b)
theorem gA.at_yes(h:gA bs V tree n m es bl bo){a:Int}(g:x∈es)(e:x.pl.key=key)(b:x.pl.num=a):qK V.vs key a=some (xF bo x):=by
 have d:=h.forest.six.2.2
 cases f:qK V.vs key a with
 |none=>exact absurd ⟨e,b⟩ (jY f _ (h.mem g))
 |some v=>
  obtain⟨p,k,q⟩:=jv f;obtain⟨c,l,rfl⟩:=h.ver q;have i:c.pl.key=key:=p;have r:c.pl.num=a:=k
  have:c=x:=d.same l g (by
   have j:c.pl=⟨c.pl.key,c.pl.num⟩:=rfl;have o:x.pl=⟨x.pl.key,x.pl.num⟩:=rfl
   rw [j,o,i,r,e,b])
  rw [this]
theorem gA.at_no(h:gA bs V tree n m es bl bo){a:Int}(g:∀x,(xn ⟨key,a⟩ es).head? =some x->¬(x.pl.key=key/\x.pl.num=a)):qK V.vs key a=none:=by
 have k:=h.forest.six.2.2
 cases s:qK V.vs key a with
 |none=>rfl
 |some v=>
  exfalso;obtain⟨t,q,r⟩:=jv s;obtain⟨f,i,rfl⟩:=h.ver r;have l:f.pl.key=key:=t;have p:f.pl.num=a:=q;have o:f.pl=⟨key,a⟩:=by rw [<-l,<-p]
  have b:f.pl.lt ⟨key,a⟩=false:=by
   rw [o]
   cases u:(⟨key,a⟩:Pl).lt ⟨key,a⟩ with
   |false=>rfl
   |true=>exact absurd u (Pl.irrefl _)
  cases d:(xn ⟨key,a⟩ es).head? with
  |none=>rw [Qv d f i] at b;cases b
  |some x=>
   obtain⟨w,j,e⟩:=k.head_on d;rcases e f i b with rfl|c;.exact g _ d ⟨l,p⟩
   .rw [o,j] at c;cases c
theorem gA.pieces(h:gA bs V tree n m es bl bo)(a:x∈es):((bo x.pl).map zv.at_).Nodup/\x.size<=300/\(bo x.pl).length<=3:=by
 have b:=h.body x a
 have c:x.size<=300:=by have:=h.good.body _ (h.mem a);have e:(xF bo x).body.length=x.size:=b.size;omega
 refine⟨?_,c,by have:=b.few;omega⟩;have d:List.Sublist ((bo x.pl).map zv.at_) (yB es bo):=List.sublist_flatten_of_mem (av.2 ⟨x,a,rfl⟩);exact d.nodup (aX.1 h.nodup).2.1
end
theorem Yh:z9=zo (Pg.new 0):=by
 rw [zo,Pg.nought];rfl
theorem cX(N j:Nat):Yc (List.replicate N z9) j=z9:=by
 unfold Yc Dk.look;split
 .rename_i h
  have a:j<N:=by have:=h.2;simp at this;exact this
  simp [jj,a]
 .rfl
theorem Uh(N:Nat)(e:64<=N)(d:N<=1000):gA (List.replicate N z9) ⟨[],0⟩ 0 0 vR [] [] (λ_=>[]) where
 few:=by simpa using d
 root:=by rw [cX];exact⟨.inr ⟨Yh,rfl,rfl⟩,by omega,by omega⟩
 n0:=rfl
 map:=by rw [cX];exact⟨VM,.inr ⟨Yh,rfl⟩⟩
 forest:=.inl ⟨rfl,rfl,rfl⟩
 body:=λx c=>(by cases c)
 nodup:=by simp [yB]
 range:=λj b=>by simp [yB] at b
 taken:=λi _=>by rw [JN];simp [yB]
 vers:=eN _
 head:=⟨Pg.new 0,Pg.new_ok 0 (by omega),by rw [cX];exact Yh,rfl⟩
 good:=⟨List.Pairwise.nil,λv a=>(by cases a),λv a=>(by cases a),λv a=>(by cases a),λv a=>(by cases a),by simp,eD _⟩
end prog
namespace prog
open Go.ChangeShapes Go.WideShapes Go.ChangeAt Go.RowKit disk ref
open keys (zg zd zq zl)
section
attribute [local go_sem ↓] kh
theorem gC(w:World)(u bd:Nat)(S T:Nat->Prop)(D:Dk)(C:Ck)(h:Cw w u bd S T D C)(tree n:Nat)(H:tree<65536)(aj:n<9223372036854775808)(K:C.ws.length<1000):
 Calls Tryz.prog 77 #[.agg #[.int .i64 (tree:Int),.int .i64 (n:Int)],.pointer (some ⟨u,0,none⟩)] w λr w'=>r=.returned (.tuple #[])/\(∃V,Cw w' u bd S V D (C.put 1 (zo (zx tree n)))/\∀j,V j->T j\/w.heap.size<=j)/\Kept T w w':=by
 obtain⟨v,F,av⟩:∃v:List Value,v=z9/\∀w,(zeroValue 154).run Tryz.prog w=.ok (.agg v.toArray) w:=⟨z9,rfl,qa Tryz.infoPage⟩;have aa:Hid (zW v):=by rw [F];exact zI
 clear F;have am:Hid _:=qc Tryz.infoPage;have al:Hid _:=h;have p:Hid _:=yv (Pg.new_ok 2 (by omega));have Q:Hid (Kept (λ_=>False) w (w.alloc (.cells #[.int .i64 (tree:Int),.int .i64 (n:Int)] 145))):=Kept.alloc _ _ _;have W:Hid _:=h.chg.lt;have X:Hid _:=h.disk.lt;clear h;go_enter Tryz.func77,Tryz.ntmps77
 go_wp2_with (first
  |(go_at_call 131;refine(jU _ 2 (by omega)).mono ?_;rintro r b ⟨rfl,m⟩;have d:b.heap[w.heap.size]? =_:=(m.block w.heap.size (by simp) (λI=>I)).trans (heap_alloc_new w _);have ao:b.cell? ⟨w.heap.size,0,none⟩=some (.int .i64 (tree:Int)):=(cR d rfl);have U:=(lT d);change Hid _ at m d)
  |(show wpList _ _ _ ({dst:=none,op:=.store _ (.tmp 4) (.tmp 5),type:=_,pos:=_,after:=_,guard:=_}::_) _ _;refine zi rfl 154 (.tmp 4) (.tmp 5) rfl _ _ (zo (Pg.new 2)) (by simp) rfl rfl (by rw [p.1];exact am) (by rw [aw,aa.1,p.1]) p.2 ?_))
 have R:Hid (yd (b.alloc (.cells (zo (Pg.new 2)).toArray 154)) b.heap.size (Pg.new 2)):=⟨⟨heap_alloc_new b _⟩,Pg.new_ok 2 (by omega)⟩;have N:Hid (Kept (λ_=>False) w (b.alloc (.cells (zo (Pg.new 2)).toArray 154))):=(Q.trans m iL).trans (Kept.alloc _ _ _) iL;have J:Hid ((b.alloc (.cells (zo (Pg.new 2)).toArray 154)).heap[w.heap.size]? =some (.cells #[.int .i64 (tree:Int),.int .i64 (n:Int)] 145 (0,0))):=((Kept.alloc (λ_=>False) b _).block w.heap.size U (λI=>I)).trans d.out;have ap:(b.alloc (.cells (zo (Pg.new 2)).toArray 154)).heap.size=b.heap.size+1:=by simp
 generalize (b.alloc (.cells (zo (Pg.new 2)).toArray 154))=ar at*;refine(dQ ar _ _ R tree H).mono ?_;rintro r t ⟨rfl,l,g⟩;have ak:=g.size;have ac:Hid (t.heap[w.heap.size]? =_):=(g.block _ (by omega) (by omega)).trans J.out;change Hid _ at l g;have ag:t.cell? ⟨w.heap.size,1,none⟩=some (.int .i64 (n:Int)):=cR ac.out rfl;have y:w.heap.size<t.heap.size:=by omega
 have x:¬w.heap.size=b.heap.size:=by omega
 have M:((Pg.new 2).setLink tree).kind=2:=rfl;have O:((Pg.new 2).setLink tree).items.length=0:=rfl;go_wp2_with fail;have ad:Hid _:=l.kept (Kept.drew (λ_=>False) t) id;have L:Hid (v6 b.heap.size ((Pg.new 2).setLink tree).kind ((Pg.new 2).setLink tree).items.length 1=.slice (some ⟨b.heap.size,4,none⟩) 8 124):=rfl;have E:Hid ((Pg.new 2).setLink tree).Ok:=l.ok;have P:Hid (qS (((Pg.new 2).setLink tree).grown 1).bytes 4 (bytesOf 8 n)=(zx tree n).bytes):=E.push_over (bytesOf 8 n) (by rw [zT];rfl) (by show (0+1)*8<=124;omega);have af:Hid ((((Pg.new 2).setLink tree).grown 1).bytes.length=128):=(E.grown 1 (by show (0+1)*8<=124;omega) (by show 0+1<=124;omega)).len;clear M O
 go_region_held3 (λw'=>w'.cell? ⟨w.heap.size,1,none⟩=some (.int .i64 (n:Int))) (go_keep) (first
  |(go_at_call 133;refine(v7 _ _ _ ad 1 (by show (0+1)*8<=124;omega) (by show 0+1<=124;omega) (by show 1<=1*8;omega)).mono ?_;rintro r ay ⟨rfl,A,f⟩;rw [L.out];have ae:=(f.cell (a:=⟨w.heap.size,1,none⟩) y x).trans ag;change Hid _ at A f)
  |(go_at_call 138;refine(yc _ _ _ _ A.bs 4 8 124 (by rw [af.out];omega) (by omega) n aj).mono ?_;rintro r k ⟨rfl,s,q⟩;rw [P.out] at s;have Y:Hid (yd k b.heap.size (zx tree n)):=⟨s,dn H⟩;have ax:=(q.cell (a:=⟨w.heap.size,1,none⟩) (au y f.size) x).trans ae;change Hid _ at q;clear s))
 have o:Hid (zW (zo (zx tree n))):=yv (dn H);have an:(fe (.pointer (some ⟨b.heap.size,0,none⟩))).run Tryz.prog k=.ok (.agg (zo (zx tree n)).toArray) k:=jw _ _ _ _ (zU Y.bs.at_) o.1;have e:Hid (Kept (λi=>w.heap.size<=i) w k):=((((N.mono fE).trans g (λj c=>.inl (by omega))).trans (Kept.drew (λ_=>False) t) fE).trans f (λj c=>.inl (by omega))).trans q (λj c=>.inl (by omega));have ab:Hid _:=al.kept e (λj c Z=>by have:=X.out j c;omega) (λj c Z=>by have:=W.out j c;omega);go_wp2_with (go_at_call 135;refine(kj _ u bd S T D C ab 1 _ o K).mono ?_;rintro r az ⟨rfl,⟨ah,G,B⟩,z⟩;change Hid _ at G B z);go_end0;have aq:=e.size;refine⟨rfl,⟨ah,G,λj c=>(B j c).imp id (λh=>by omega)⟩,?_⟩;have ai:Kept T w k:=Kept.trans (S:=T) (S':=λi=>w.heap.size<=i) (Kept.refl _ w) e (λj c=>.inr c);exact ai.trans z iL
end
end prog
namespace book
open Go.RowKit disk ref
variable {listed:Array Bool}
section
variable {P:Program} {ops:Array Oper} {Q:Exit->Act->World->Prop}
def leftOf(n:Nat)(listed:Array Bool):List Nat:=(List.range n).filter λi=> !listed.getD i true
theorem gQ{n i:Nat}:i∈leftOf n listed↔i<n/\listed.getD i true=false:=by
 unfold leftOf;rw [eA,mK];simp
theorem J9{n i:Nat}(h:i∈leftOf n listed):(leftOf n (listed.setIfInBounds i true)).length<(leftOf n listed).length:=by
 have b:leftOf n (listed.setIfInBounds i true)=(leftOf n listed).filter λj=> !decide (j=i):=by
  unfold leftOf;rw [mN];refine mq λj _=>?_;by_cases e:i=j
  .subst e;have d:=(gQ.1 h).2
   have c:i<listed.size:=by
    rcases iZ i listed.size with a|a;.exact a
    .simp [Array.getElem?_eq_none a] at d
   simp [c]
  .rw [getD_set_ne true e];simp [iK e]
 rw [b];refine List.length_filter_lt_length_iff_exists.2 ⟨i,h,by simp⟩
def Yi(ops:Array Oper):Bool:=(List.range ops.size).all λi=>((ops[i]?).map λo=>o.after.all λe=> !Region.binds .any e||decide (e.on<i)).getD true
theorem cY(d:Yi ops=true)(n:listed.size=ops.size)(k:Region.ready .any ops listed=[]):∀i,i<ops.size->listed.getD i false=true:=by
 intro i
 induction i using Nat.strongRecOn with
 |ind i g=>
  intro b
  cases h:listed.getD i false with
  |true=>rfl
  |false=>
   have j:listed.getD i true=false:=by simp only [Array.getD,n,b, ↓reduceDIte] at h ⊢;exact h
   have a:i∈Region.ready .any ops listed:=mem_ready.2 ⟨j,ops[i],by simp [b],λe f m=>by
    have c:=aQ.1 d i (mK.2 b);rw [lx b] at c;simp only [Option.map_some,i9,Array.all_eq_true_iff_forall_mem,lj,ij,aO] at c;have l:=(c e f).resolve_left (by rw [m];decide)
    exact g e.on l (by omega)⟩
   rw [k] at a;cases a
theorem Ui(s:Yi ops=true)(y:(Nat->Bool)->Act->World->Prop)
 (m:∀(o:Nat->Bool) (a:Act) (w:World) (i:Nat) (v:Oper),ops[i]? =some v->o i=false->(∀e∈v.after,Region.binds .any e=true->o e.on=true)->y o a w->wpOp P ops Q i (λp w'=>y (λj=>decide (j=i)||o j) p w') a w)
 (c:∀(o:Nat->Bool) (a:Act) (w:World),(∀i,i<ops.size->o i=true)->y o a w->Q .normal a w):
 ∀(b:Nat) (listed:Array Bool) (a:Act) (w:World),listed.size=ops.size->(leftOf ops.size listed).length<=b->y (λj=>listed.getD j false) a w->wpAny P .any ops Q b listed a w:=by
 intro b
 induction b with
 |zero=>
  intro listed a w n q f
  have k:Region.ready .any ops listed=[]:=by
   cases x:Region.ready .any ops listed with
   |nil=>rfl
   |cons i l=>
    obtain⟨d,v,g,_⟩:=mem_ready.1 (show i∈Region.ready .any ops listed by rw [x];simp);have:i∈leftOf ops.size listed:=gQ.2 ⟨(lT g),d⟩;rw [ed (Nat.le_zero.1 q)] at this;cases this
  exact⟨k,c _ a w (cY s n k) f⟩
 |succ b C=>
  intro listed a w n q f;refine⟨λk=>c _ a w (cY s n k) f,λi A=>?_⟩;obtain⟨d,v,g,z⟩:=mem_ready.1 A;have r:=(lT g);have t:i<listed.size:=by omega
  have u:listed.getD i false=false:=by simp only [Array.getD,t, ↓reduceDIte] at d ⊢;exact d
  have B:i∈leftOf ops.size listed:=gQ.2 ⟨r,d⟩;have D:=J9 B;refine wpOp_mono (λp w' h=>C (listed.setIfInBounds i true) p w' (by simpa using n) (by omega) ?_) (m _ a w i v g u z f)
  have e:(λj=>(listed.setIfInBounds i true).getD j false)=(λj=>decide (j=i)||listed.getD j false):=by
   funext j;by_cases e:i=j
   .subst e;simp [t]
   .rw [getD_set_ne false e];simp [iK e]
  rw [e];exact h
theorem xR{id:Nat}{a:Act}{w:World}(g:P.follows .mixedOrders=true)(h:Yi ops=true)(f:(Nat->Bool)->Act->World->Prop)(l:f (λ_=>false) a w.drew)
 (b:∀(d:Nat->Bool) (a:Act) (w:World) (i:Nat) (m:Oper),ops[i]? =some m->d i=false->(∀e∈m.after,Region.binds .any e=true->d e.on=true)->f d a w->wpOp P ops Q i (λk w'=>f (λj=>decide (j=i)||d j) k w') a w)
 (c:∀(d:Nat->Bool) (a:Act) (w:World),(∀i,i<ops.size->d i=true)->f d a w->Q .normal a w):(Code.region id ops true).wp P Q a w:=by
 refine wp_region_any g (Ui h f b c ops.size _ a _ (by simp) ?_ ?_)
 .unfold leftOf;exact aF (ir _ _) (by simp)
 .have e:(λj=>(Array.replicate ops.size false).getD j false)=λ_=>false:=by
   funext j;simp only [Array.getD,Array.size_replicate];split<;>simp
  rw [e];exact l
theorem jq{w:World}{o:Oper}{a:Act}{R:Act->World->Prop}{S:Prop}(y:o.guard=none)(s x:Operand)(t:TypeId)
 (I:o.op=.call {callee:=.builtin .append,args:=#[s,x],argTypes:=#[t,t] })
 (e:TypeId) (i:TypeInfo) (z:Value) (b bytes:Nat) (E:P.underlying t=some (.slice e)) (M:P.info? e=some i) (G:i.zero=some z)
 (g:i.size=b) (B:i.bytes=bytes) (C:z.cells.size=b) (v:Value) (n:Nat) (q:List Value) (L:a.eval s=v) (l:w.ownsRow 0 e b v n q)
 (p:Addr) (m c:Nat) (d:List Value) (N:a.eval x=.slice (some p) m c) (J:d.length=m*b) (k:∀j u,d[j]? =some u->w.cell? (p.add j)=some u) (F:∀u∈d,u.oneCell'=true) (O:0<m)
 (A:n+m<=maxLen) (f:(n+m)*bytes<=140737488355328)
 (h:∀r w',US w w' e b v n m q r->R (a.put o.dst r) w'):if Region.wanted o (yielded ops a.tmps)=true then Oper.wp P o a w R Q else S:=by
 have H:Region.wanted o (yielded ops a.tmps)=true:=by simp [Region.wanted,y]
 rw [aB H];obtain⟨r,w',K,D⟩:=vw (P:=P) w t o.type e i z b bytes E M G g B C v n q l p m c d J k F O A f;unfold Oper.wp execOp;simp only [I,resolve,invoke,builtin,il,iI,eM,iQ,aT,im,L,N,K];exact h r w' D
end
end book
end Go.Proofs.YtcoengihaobddaaGreatDoor

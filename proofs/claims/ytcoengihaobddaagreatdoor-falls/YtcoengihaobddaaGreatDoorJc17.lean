/- Part 17 of 36 of a proof: Chg1, Chg2, Chg3, Chg4, Tree8, Map1, Chg5 -/
import Derived.Test.YtcoengihaobddaaGreatDoorJc16
set_option maxHeartbeats 8000000
set_option linter.unusedVariables false
set_option linter.unusedSimpArgs false
set_option maxRecDepth 8000
namespace Go.Proofs.YtcoengihaobddaaGreatDoor
namespace prog
open Go.ChangeShapes Go.WideShapes Go.ChangeAt Go.RowKit disk ref
open keys (zh ze zy zs)
variable {w w':World}{bc bd cap g k:Nat}{T X:Nat->Prop}{a:Option Addr}{i:Int}{D:Dk}
structure Ck where
 ws:List (Nat×List Value)
 full:Bool
structure qD (w:World) (bc bd:Nat) (T:Nat->Prop) (C:Ck) (a:Option Addr) (cap:Nat):Prop where
 ok:∀p∈C.ws,zT p.2
 head:w.heap[bc]? =some (.cells #[.pointer (some ⟨bd,0,none⟩),.slice a C.ws.length cap,.bool C.full] 197 (0,0))
 row:w.ownsRow 0 160 129 (.slice a C.ws.length cap) C.ws.length (C.ws.map zN).flatten
 own:∀k,T k↔(k=bc\/(Value.slice a C.ws.length cap).ownBlock=some k)
 ap:(Value.slice a C.ws.length cap).ownBlock≠some bc
 few:C.ws.length<=1000
theorem qD.bcT{C:Ck}(h:qD w bc bd T C a cap):T bc:=(h.own bc).2 (.inl rfl)
theorem qD.lt{C:Ck}(h:qD w bc bd T C a cap):∀k,T k->k<w.heap.size:=λk c=>by
 rcases (h.own k).1 c with rfl|b;.exact(lT h.head)
 .exact(h.row.lt k b).2
theorem qD.kept{C:Ck}(h:qD w bc bd T C a cap)(k:za X w w')(b:∀i,T i->¬X i):qD w' bc bd T C a cap:=by
 refine⟨h.ok,?_,k.owns h.row (λi c=>b i ((h.own i).2 (.inr c))),h.own,h.ap,h.few⟩;rw [k.block bc (h.lt bc h.bcT) (b bc h.bcT)];exact h.head
theorem qD.c0{C:Ck}(h:qD w bc bd T C a cap):w.cell? ⟨bc,0,none⟩=some (.pointer (some ⟨bd,0,none⟩)):=cR h.head rfl
theorem qD.c1{C:Ck}(h:qD w bc bd T C a cap):w.cell? ⟨bc,1,none⟩=some (.slice a C.ws.length cap):=cR h.head rfl
theorem qD.c2{C:Ck}(h:qD w bc bd T C a cap):w.cell? ⟨bc,2,none⟩=some (.bool C.full):=cR h.head rfl
theorem qD.fz{C:Ck}(h:qD w bc bd T C a cap)(i:Nat):w.frozen? ⟨bc,i,none⟩=false:=aa w bc i _ _ h.head
theorem qD.rowAt{C:Ck}(h:qD w bc bd T C a cap)(f:0<C.ws.length):∃g,a=some ⟨g,0,none⟩:=by
 rcases h.row.2 with⟨_,e⟩|⟨g,c,d,b,_⟩;.omega
 .cases b;exact⟨g,rfl⟩
theorem qD.wlen{C:Ck}(h:qD w bc bd T C a cap):∀b∈C.ws.map zN,b.length=129:=λb d=>by
 obtain⟨p,c,rfl⟩:=au.1 d;simp [zN,(h.ok p c).1]
theorem qD.range{C:Ck}(h:qD w bc bd T C (some ⟨g,0,none⟩) cap)(i:Nat)(b:i<C.ws.length):w.rangeAt g (i*129) (.int .i64 (C.ws[i].1:Int)::C.ws[i].2):=by
 have a:=h.row;rw [show C.ws.length=(C.ws.map zN).length from by simp] at a;have:=yr a h.wlen i (by simpa using b);simpa [zN] using this
def Chg(w:World)(bc bd:Nat)(T:Nat->Prop)(C:Ck):Prop:=∃a cap,qD w bc bd T C a cap
theorem Chg.kept{C:Ck}(h:Chg w bc bd T C)(k:za X w w')(b:∀i,T i->¬X i):Chg w' bc bd T C:=by
 obtain⟨a,cap,h⟩:=h;exact⟨a,cap,h.kept k b⟩
theorem Chg.lt{C:Ck}(h:Chg w bc bd T C):∀k,T k->k<w.heap.size:=by
 obtain⟨a,cap,h⟩:=h;exact h.lt
def yg(ws:List (Nat×List Value))(i:Int):Option Nat:=ws.findIdx? λp=>decide ((p.1:Int)=i)
def Gn:Option Nat->Int
 |some k=>k
 |none=> -1
theorem Tryz.infoCw:(Tryz.prog.info? 160).map (λi=>(i.zero,i.size,i.bytes))=some (some (.agg yu.toArray),129,136):=by kernel_rfl
theorem cU{ws:List (Nat×List Value)}(c:k<ws.length)(d:∀j (a:j<ws.length),j<k->¬(ws[j].1:Int)=i)(b:(ws[k].1:Int)=i):yg ws i=some k:=by
 unfold yg;rw [eQ];exact⟨c,by simpa using b,λj a=>by simpa using d j (by omega) a⟩
theorem QQ{ws:List (Nat×List Value)}(c:∀j (a:j<ws.length),¬(ws[j].1:Int)=i):yg ws i=none:=by
 unfold yg;rw [im];intro p b;obtain⟨j,a,rfl⟩:=ed b;simpa using c j a
theorem xi(w:World)(bc bd:Nat)(T:Nat->Prop)(C:Ck)(a:Option Addr)(cap:Nat)(h:qD w bc bd T C a cap)(i:Int):
 Calls Tryz.prog 172 #[.pointer (some ⟨bc,0,none⟩),.int .i64 i] w λe w'=>e=.returned (.int .i64 (Gn (yg C.ws i)))/\za (λ_=>False) w w':=by
 obtain⟨r,x,J⟩:∃r:List Value,r=yu/\∀w,(zeroValue 160).run Tryz.prog w=.ok (.agg r.toArray) w:=⟨yu,rfl,zY Tryz.infoCw⟩;have v:Hid (r.length=129):=by rw [x];exact congrArg (· +1) zH.1
 clear x;have m:Hid _:=zZ Tryz.infoCw;have K:=h.c1;have I:=h.few;have A:Hid _:=h;clear h;go_enter Tryz.func172,Tryz.ntmps172;go_wp2;go_loopw [12] (λt wr=>∃k:Nat,k<=C.ws.length/\t=.int .i64 k/\(∀j (l:j<C.ws.length),j<k->¬(C.ws[j].1:Int)=i)/\za (λ_=>False) w wr) (λt _=>C.ws.length-(intOf t).toNat)
 case atStart=>exact⟨0,aj _,rfl,λ_ _ h=>by omega,za.refl _ _⟩
 case round=>
  obtain⟨k,L,rfl,p,c⟩:=hrel;change Hid _ at p c;by_cases n:k<C.ws.length
  .obtain⟨g,rfl⟩:=A.rowAt (by omega);have D:Hid _:=(A.kept c.out nF).range k n;have b:Hid (zT C.ws[k].2):=A.ok _ (ai n)
   have F:Hid (∀j (l:j<C.ws.length),j<k+1->¬(C.ws[k].1:Int)=i->¬(C.ws[j].1:Int)=i):=λj l u B=>by
    by_cases e:j=k;.subst e;exact B
    .exact p.out j l (by omega)
   have s:Hid ((C.ws[k].1:Int)=i->yg C.ws i=some k):=λH=>cU n p.out H;generalize G:C.ws[k]=q at*;obtain⟨f,o⟩:=q;clear G;simp only at F s;have y:Hid (za (λ_=>False) w (wr.alloc (.cells (.int .i64 (f:Int)::o).toArray 160))):=c.trans (za.alloc _ _ _) iL;by_cases d:(f:Int)=i
   .have E:((f:Int)==i)=true:=by simp [d]
    have z:Hid _:=d;clear d
    go_wp2_with (first
     |(show wpList _ _ _ ({dst:=some 16,op:=.load _ _,type:=_,pos:=_,after:=_,guard:=_}::_) _ _;refine wpList_load_mid rfl 160 (.tmp 15) rfl _ _ rfl (.int .i64 (f:Int)::o) _ D.out Tryz.underlying160 rfl (by rw [ae,b.1];exact m.out) ?_)
     |(show wpList _ _ _ ({dst:=none,op:=.store _ _ _,type:=_,pos:=_,after:=_,guard:=_}::_) _ _;refine zi rfl 160 (.tmp 6) (.tmp 16) rfl _ _ (.int .i64 (f:Int)::o) rfl rfl rfl (by rw [ae,b.1];exact m.out) (by rw [ae,b.1];simpa using v.out) (aQ.2 ⟨rfl,b.2⟩) ?_))
    go_ret;exact⟨by rw [s.out z.out];rfl,y.out⟩
   .have E:((f:Int)==i)=false:=by simpa using d
    have z:Hid _:=d;clear d
    go_wp2_with (first
     |(show wpList _ _ _ ({dst:=some 16,op:=.load _ _,type:=_,pos:=_,after:=_,guard:=_}::_) _ _;refine wpList_load_mid rfl 160 (.tmp 15) rfl _ _ rfl (.int .i64 (f:Int)::o) _ D.out Tryz.underlying160 rfl (by rw [ae,b.1];exact m.out) ?_)
     |(show wpList _ _ _ ({dst:=none,op:=.store _ _ _,type:=_,pos:=_,after:=_,guard:=_}::_) _ _;refine zi rfl 160 (.tmp 6) (.tmp 16) rfl _ _ (.int .i64 (f:Int)::o) rfl rfl rfl (by rw [ae,b.1];exact m.out) (by rw [ae,b.1];simpa using v.out) (aQ.2 ⟨rfl,b.2⟩) ?_))
    go_roundw
    case rel=>exact⟨k+1,by omega,by go_num,λj l u=>F.out j l u z.out,y.out⟩
    case measure=>simp [intOf];omega
  .have s:Hid _:=QQ (λj l=>p.out j l (by omega));go_wp2;go_ret;exact⟨by rw [s.out];rfl,c.out⟩
theorem dO(w:World)(bc bd:Nat)(T:Nat->Prop)(C:Ck)(h:Chg w bc bd T C):
 Calls Tryz.prog 139 #[.pointer (some ⟨bc,0,none⟩)] w λe w'=>e=.returned (.bool (C.full||decide (18<C.ws.length)))/\w'=w:=by
 obtain⟨a,cap,h⟩:=h;have f:=h.c1;have b:=h.c2;have d:=h.few;clear h;cases c:C.full
 .rw [c] at b;go_enter Tryz.func139,Tryz.ntmps139;go_wp2;go_ret;exact⟨ze (by simp;omega),rfl⟩
 .rw [c] at b;go_enter Tryz.func139,Tryz.ntmps139;go_wp2;go_ret;exact⟨ze (by simp),rfl⟩
theorem cV(w:World)(bd:Nat)(b:bd<w.heap.size):
 Calls Tryz.prog 73 #[.pointer (some ⟨bd,0,none⟩)] w λe w'=>e=.returned (.pointer (some ⟨w.heap.size,0,none⟩))/\Chg w' w.heap.size bd (λk=>k=w.heap.size) ⟨[],false⟩/\za (λ_=>False) w w':=by
 go_enter Tryz.func73,Tryz.ntmps73;go_wp2;go_ret;refine⟨rfl,⟨none,0,λp a=>(by cases a),?_,aV _ 0 160 129,λk=>by simp [Value.ownBlock],by simp [Value.ownBlock],by simp⟩,za.alloc _ _ _⟩;exact ac w _
structure Cw (w:World) (bc bd:Nat) (S T:Nat->Prop) (D:Dk) (C:Ck):Prop where
 disk:zg w bd S D
 chg:Chg w bc bd T C
 apart:∀k,S k->¬T k
theorem Cw.kept{S:Nat->Prop}{C:Ck}(h:Cw w bc bd S T D C)(k:za X w w')(b:∀i,S i->¬X i)(a:∀i,T i->¬X i):Cw w' bc bd S T D C:=⟨h.disk.kept k b,h.chg.kept k a,h.apart⟩
theorem Cw.kept0{S:Nat->Prop}{C:Ck}(h:Cw w bc bd S T D C)(k:za (λ_=>False) w w'):Cw w' bc bd S T D C:=h.kept k nF nF
def Ck.look(C:Ck)(D:Dk)(i:Int):List Value:=match yg C.ws i with
 |some k=>(C.ws.getD k (0,[])).2
 |none=>D.look i
theorem xH{C:Ck}(h:yg C.ws i=some k):∃a:k<C.ws.length,C.look D i=C.ws[k].2/\(C.ws[k].1:Int)=i:=by
 have h':=h;unfold yg at h';rw [eQ] at h';obtain⟨a,b,_⟩:=h';refine⟨a,?_,by simpa using b⟩;unfold Ck.look;rw [h];simp [a]
theorem kg{C:Ck}(h:yg C.ws i=none):C.look D i=D.look i:=by unfold Ck.look;rw [h]
theorem Dk.Ok.look(h:D.Ok)(i:Int):zT (D.look i):=by
 unfold Dk.look;split
 next b=>
  refine cF ?_ (λp a=>(h.ps p a).2);rw [aA,aH (by omega),iT];exact h.bs _ (ai _)
 next=>exact zH
theorem kh(w:World)(bc bd:Nat)(S T:Nat->Prop)(D:Dk)(C:Ck)(h:Cw w bc bd S T D C)(i:Int)(Y:zD i)(R:0<=D.reads)(V:D.reads<=4611686018427387904):
 Calls Tryz.prog 192 #[.pointer (some ⟨bc,0,none⟩),.int .i64 i] w λe w'=>e=.returned (.agg (C.look D i).toArray)/\(∃n:Int,0<=n/\n<=1/\Cw w' bc bd S T {D with reads:=D.reads+n} C)/\za (λk=>k=bd) w w':=by
 obtain⟨r,H,aj⟩:∃r:List Value,r=zX/\∀w,(zeroValue 131).run Tryz.prog w=.ok (.agg r.toArray) w:=⟨zX,rfl,zY Tryz.infoBlock⟩;have o:Hid (zT r):=by rw [H];exact zH
 clear H;have E:Hid ((Tryz.prog.info? 131).map (·.size)=some 128):=zZ Tryz.infoBlock;have p:Hid _:=h;obtain⟨a,cap,f⟩:=h.chg;have af:=f.bcT;have ag:=h.disk.lt bd h.disk.bdS;change Hid _ at f;clear h;have l:Hid (za (λ_=>False) w (w.alloc (.cells r.toArray 131))):=za.alloc _ _ _
 cases x:yg C.ws i with
 |some k=>
  obtain⟨u,U,aa⟩:=xH (D:=D) x;have L:Hid _:=U;have N:Hid _:=x;obtain⟨g,rfl⟩:=f.rowAt (by omega);have b:Hid (zT C.ws[k].2):=f.ok _ (ai u);clear U x;have ae:¬(k:Int)<0:=by omega
  have ad:(k:Int)<(C.ws.length:Int):=by omega
  have X:Hid (∀m,za (λ_=>False) w m->m.rangeAt g (k*129+1) C.ws[k].2):=λm c j v Z=>by have:=(f.kept c nF).range k u (j+1) v (by simpa using Z);rw [lH,iG 1 j];exact this
  generalize C.ws[k].2=d at*;go_enter Tryz.func192,Tryz.ntmps192
  go_wp2_with (first
   |(go_at_call 172;refine(xi _ bc bd T C _ cap (f.kept l nF) i).mono ?_;rintro e m ⟨rfl,c⟩;rw [N.out];unfold Gn;have t:Hid _:=c;have ah:=((f.kept l nF).kept c nF).c1;have z:Hid (m.heap[w.heap.size]? =some (.cells r.toArray 131 (0,0))):=(c.block w.heap.size (by simp) (λK=>K)).trans (ac w _);have W:Hid _:=X.out m (l.trans c iL);clear c)
   |(show wpList _ _ _ ({dst:=some 18,op:=.load _ _,type:=_,pos:=_,after:=_,guard:=_}::_) _ _;refine wpList_load_mid rfl 131 (.tmp 17) rfl _ _ rfl d _ W Tryz.underlying131 rfl (by rw [b.1];exact E) ?_)
   |(show wpList _ _ _ ({dst:=none,op:=.store _ _ _,type:=_,pos:=_,after:=_,guard:=_}::_) _ _;refine wpList_store_mid rfl 131 (.tmp 4) (.tmp 18) rfl _ _ _ rfl rfl (by have:=yd z.out;rw [o.1] at this;simpa [b.1] using this) (by rw [aq,b.1];exact E) (all_oneCell_toArray b.2) ?_))
  have I:=qa w.heap.size 131 d 0 m _ z (by simp [o.1,b.1]);have s:=za.setCells (S:=λk=>k=w.heap.size) w.heap.size rfl d 0 m;have q:za (λ_=>False) w (m.setCells w.heap.size 0 d):=(l.trans t iL).trans s (λj M=>.inr (by rw [M];exact aF _))
  have A:(m.setCells w.heap.size 0 d).heap[w.heap.size]? =some (.cells d.toArray 131 (0,0)):=by rw [I];congr 3;rw [mn,aK,eo (by simp [o.1,b.1]),aM]
  refine bodyPost_ret (v:=.agg d.toArray) (results_cell_row Tryz.results192 _ _ w.heap.size 131 _ (0,0) _ rfl A Tryz.underlying131 rfl (by rw [aq,b.1];exact E)) rfl ⟨by rw [L.out],⟨0,by omega,by omega,?_⟩,q.mono fE⟩;have:=p.kept0 q;simpa using this
 |none=>
  have N:Hid _:=x;have L:Hid _:=kg (D:=D) x;have b:Hid (zT (D.look i)):=Dk.Ok.look p.disk.ok i;clear x;generalize P:D.look i=d at*;change Hid _ at P;go_enter Tryz.func192,Tryz.ntmps192
  go_wp2_with (first
   |(go_at_call 172;refine(xi _ bc bd T C _ cap (f.kept l nF) i).mono ?_;rintro e m ⟨rfl,c⟩;rw [N.out];unfold Gn;have t:Hid _:=c;have ab:=((f.kept l nF).kept c nF).c0;have z:Hid (m.heap[w.heap.size]? =some (.cells r.toArray 131 (0,0))):=(c.block w.heap.size (by simp) (λK=>K)).trans (ac w _);clear c)
   |(go_at_call 81;refine(jr _ bd S D ((p.kept0 l).kept0 t).disk i Y R V).mono ?_;rintro e B ⟨rfl,F,y⟩;rw [P.out];have O:Hid (zg B bd S {D with reads:=D.reads+1 }):=F;have G:Hid _:=(y.block w.heap.size (lT z) (by omega)).trans z.out;change Hid _ at y;clear F)
   |(show wpList _ _ _ ({dst:=none,op:=.store _ _ _,type:=_,pos:=_,after:=_,guard:=_}::_) _ _;refine wpList_store_mid rfl 131 (.tmp 4) (.tmp 24) rfl _ _ _ rfl rfl (by have:=yd G.out;rw [o.1] at this;simpa [b.1] using this) (by rw [aq,b.1];exact E) (all_oneCell_toArray b.2) ?_))
  have I:=qa w.heap.size 131 d 0 B _ G (by simp [o.1,b.1]);have s:=za.setCells (S:=λk=>k=w.heap.size) w.heap.size rfl d 0 B;have J:=((l.trans t iL).mono fE).trans y iL;have q:za (λk=>k=bd) w (B.setCells w.heap.size 0 d):=J.trans s (λj M=>.inr (by rw [M];exact aF _))
  have A:(B.setCells w.heap.size 0 d).heap[w.heap.size]? =some (.cells d.toArray 131 (0,0)):=by rw [I];congr 3;rw [mn,aK,eo (by simp [o.1,b.1]),aM]
  have Q:∀k,S k->k<w.heap.size:=p.disk.lt;refine bodyPost_ret (v:=.agg d.toArray) (results_cell_row Tryz.results192 _ _ w.heap.size 131 _ (0,0) _ rfl A Tryz.underlying131 rfl (by rw [aq,b.1];exact E)) rfl ⟨by rw [L.out],⟨1,by omega,by omega,⟨O.kept s (λk u e=>by have:=Q k u;omega),p.chg.kept q (λk u e=>p.apart bd p.disk.bdS (by rw [<-e];exact u)),p.apart⟩⟩,q⟩
def Ck.put(C:Ck)(i:Nat)(b:List Value):Ck:=match yg C.ws i with
 |some k=>{C with ws:=C.ws.set k (i,b)}
 |none=>{C with ws:=C.ws++[(i,b)]}
theorem ZP(w:World)(n:Int)(b:List Value)(h:b.length=128):
 (Instr.build 160 #[(0,.int .i64 n),(1,.agg b.toArray)]).run Tryz.prog w=.ok (.agg (.int .i64 n::b).toArray) w:=by
 have j:=zY Tryz.infoCw w;have a:yu.length=129:=congrArg (· +1) zH.1;have i:=xA Ql;have h2:=xA (zZ Tryz.infoBlock);generalize k:yu=c at*;have d:¬c=[]:=λe=>by rw [e] at a;simp at a
 have f:=gt 1 b (c.set 0 (.int .i64 n)).toArray (by simp [h,a]);have g:¬(¬b.length=128\/c.length<1+b.length):=by omega
 simp only [Instr.build,ie,j,eD,ii Tryz.underlying160 w];simp [i,h2,Value.cells,Instr.fill];rw [aw d,aw g,f];simp only [iI];congr 2;apply lF
 cases c with
 |nil=>exact absurd rfl d
 |cons z l=>simp [h];simp at a;omega
theorem ZQ(w:World)(a:List Value)(h:a.length=129):
 (Instr.buildSlice 156 1 #[(0,.agg a.toArray)]).run Tryz.prog w=.ok (.slice (some ⟨w.heap.size,0,none⟩) 1 1) (w.alloc (.cells a.toArray 160)):=by
 have c:=zY Tryz.infoCw w;have h2:=xA (zZ Tryz.infoCw);generalize d:yu=e at*;have b:¬(¬a.length=129\/129<a.length):=by omega
 simp only [Instr.buildSlice,ie,eD,ii Tryz.underlying156 w]
 first
  |(simp [h2,Value.cells,Instr.fill]
    rw [aw b,vw a _ (by simp [h])];simp [newRow]
    done)
  |(simp [h2,c,Value.cells,Instr.fill,hzl]
    rw [aw b,vw a _ (by simp [h])]
    simp [newRow])
def VM(parts:Array (Nat×Value)):Sem Value:=Instr.build 160 parts
theorem cW(parts:Array (Nat×Value)):Instr.build 160 parts=VM parts:=rfl
theorem dP(w:World)(n:Int)(b:List Value)(h:b.length=128):(VM #[(0,.int .i64 n),(1,.agg b.toArray)]).run Tryz.prog w=.ok (.agg (.int .i64 n::b).toArray) w:=ZP w n b h
def VN(len:Nat)(parts:Array (Nat×Value)):Sem Value:=Instr.buildSlice 156 len parts
theorem cX(a:Nat)(parts:Array (Nat×Value)):Instr.buildSlice 156 a parts=VN a parts:=rfl
theorem dQ(w:World)(c:Value)(a:List Value)(h:a.length=128):(VN 1 #[(0,.agg (c::a).toArray)]).run Tryz.prog w=.ok (.slice (some ⟨w.heap.size,0,none⟩) 1 1) (w.alloc (.cells (c::a).toArray 160)):=
 ZQ w (c::a) (by simp [h])
def uL(v:Value):Sem Value:=Instr.loadAt 154 v
theorem jx(v:Value):Instr.loadAt 154 v=uL v:=rfl
theorem xN(w:World)(b c:Nat)(a:List Value)(d:w.rangeAt b c a)(h:a.length=128):(uL (.pointer (some ⟨b,c,none⟩))).run Tryz.prog w=.ok (.agg a.toArray) w:=
 run_loadAt_mid w b c 154 a _ d yK rfl (by rw [h];exact zZ Tryz.infoPage)
theorem qD.pushed{d:World}{C:Ck}(h:qD w bc bd T C a cap)(x:C.ws.length<1000)(y:Obj)(i:Nat)(b:List Value)(v:zT b)(g j:Nat)
 (r:d.ownsRow 0 160 129 (.slice (some ⟨g,0,none⟩) (C.ws.length+1) j) (C.ws.length+1) ((C.ws.map zN).flatten++.int .i64 (i:Int)::b))
 (m:(w.alloc y).drew.grownBy d (Value.slice a C.ws.length cap).ownBlock) (q:(Value.slice a C.ws.length cap).ownBlock=some g\/g=w.heap.size+1):
 qD (d.setCell ⟨bc,1,none⟩ (.slice (some ⟨g,0,none⟩) (C.ws.length+1) j)) bc bd (λk=>k=bc\/k=g) {C with ws:=C.ws++[(i,b)]} (some ⟨g,0,none⟩) j/\
  (∀k,(k=bc\/k=g)->T k\/w.heap.size<=k)/\za T w (d.setCell ⟨bc,1,none⟩ (.slice (some ⟨g,0,none⟩) (C.ws.length+1) j)):=by
 have t:=h.lt bc h.bcT
 have u:g≠bc:=by
  rcases q with e|e;.exact λo=>h.ap (by rw [e,o])
  .omega
 have s:=za.grown m (λk c=>c);have c:za (λk=>(Value.slice a C.ws.length cap).ownBlock=some k) w d:=((za.alloc _ w y).trans (za.drew _ _) iL).trans s iL;have l:=za.setCell (S:=λk=>k=bc) d ⟨bc,1,none⟩ (.slice (some ⟨g,0,none⟩) (C.ws.length+1) j) rfl;have n:(C.ws++[(i,b)]).length=C.ws.length+1:=by simp
 refine⟨⟨?_,?_,?_,?_,?_,?_⟩,?_,?_⟩
 .intro p f;rcases ah.1 f with f|f;.exact h.ok p f
  .rw [az.1 f];exact v
 .simp only [n];have e:=(c.block bc t (λe=>h.ap e)).trans h.head;rw [heap_setCell_same d bc 1 _ _ _ e];rfl
 .simp only [n];have:=l.owns r (λk c e=>by simp [Value.ownBlock] at c;omega);simpa [zN] using this
 .intro k;simp only [n];simp [Value.ownBlock,my]
 .simp [Value.ownBlock];exact u
 .simp only [n];omega
 .intro k c;rcases c with rfl|rfl;.exact .inl h.bcT
  .rcases q with o|o;.exact .inl ((h.own k).2 (.inr o))
   .right;omega
 .refine(c.mono (λk c=>(h.own k).2 (.inr c))).trans l (λk c=>.inl (by rw [c];exact h.bcT))
theorem dR{j:Nat}{a:Array Value}{t:TypeId}{v:Value}(d:w.heap[g]? =some (.cells a t (0,0)))(b:a[j]? =some v):w.setCell ⟨g,j,none⟩ v=w:=by
 have c:(w.setCell ⟨g,j,none⟩ v).heap=w.heap:=by
  apply Array.ext_getElem?;intro k;by_cases e:k=g
  .subst e;rw [heap_setCell_same w k j _ _ _ d,d];congr 2;apply Array.ext_getElem?;intro m;rw [Array.getElem?_setIfInBounds];split
   next e=>subst e;rw [b,aB (lT b)]
   next=>rfl
  .exact ir w ⟨g,j,none⟩ k v e
 cases w;simp only [World.setCell] at c ⊢;rw [c]
theorem qD.reset{C:Ck}(h:qD w bc bd T C (some ⟨g,0,none⟩) cap)(k:Nat)(l:k<C.ws.length)(b:List Value)(i:zT b):
 qD (w.setCells g (k*129+1) b) bc bd T {C with ws:=C.ws.set k (C.ws[k].1,b)} (some ⟨g,0,none⟩) cap:=by
 have j:bc≠g:=λe=>h.ap (by rw [<-e];rfl);have a:(C.ws.set k (C.ws[k].1,b)).length=C.ws.length:=by simp
 refine⟨?_,?_,?_,by simp only [a];exact h.own,by simp only [a];exact h.ap,by simp only [a];exact h.few⟩
 .intro p f;rcases il f with f|rfl;.exact h.ok p f
  .exact i
 .simp only [a];rw [xd g bc j];exact h.head
 .simp only [a];have c:=h.row;rw [show C.ws.length=(C.ws.map zN).length from by simp] at c;have h2:=dq c h.wlen k (by simpa using l) (.int .i64 (C.ws[k].1:Int)::b) (by simp [i.1]);have q:(C.ws.map zN).set k (.int .i64 (C.ws[k].1:Int)::b)=(C.ws.set k (C.ws[k].1,b)).map zN:=by rw [lU];rfl
  rw [q] at h2
  have s:(w.setCells g (k*129) (.int .i64 (C.ws[k].1:Int)::b))=w.setCells g (k*129+1) b:=by
   rw [World.setCells];congr 1;have m:w.cell? ⟨g,k*129,none⟩=some (.int .i64 (C.ws[k].1:Int)):=h.range k l 0 _ rfl;rcases h.row.2 with⟨o,_⟩|⟨u,n,t,r,_,d,_⟩;.cases o
   .cases r;refine dR d ?_;rw [aG w g (k*129) _ _ _ d] at m;exact m
  rw [s] at h2;simpa using h2
theorem jy{C:Ck}{i:Nat}(b:List Value)(h:yg C.ws i=some k):∃a:k<C.ws.length,C.put i b={C with ws:=C.ws.set k (C.ws[k].1,b)}:=by
 obtain⟨a,_,h2⟩:=xH (D:=⟨[],[],0,0⟩) h;have:C.ws[k].1=i:=by omega
 exact⟨a,by unfold Ck.put;rw [h,this]⟩
theorem jJ{C:Ck}{i:Nat}(b:List Value)(h:yg C.ws i=none):C.put i b={C with ws:=C.ws++[(i,b)]}:=by unfold Ck.put;rw [h]
section
attribute [local go_sem ↓] Go.wp_at_zero Go.wp_at_succ cW cX jx
attribute [local go_sem] dP dQ
theorem QR(w:World)(bc bd:Nat)(T:Nat->Prop)(C:Ck)(a:Option Addr)(cap:Nat)(h:qD w bc bd T C a cap)(i:Nat)(b:List Value)(I:zT b)(D:C.ws.length<1000)(B:yg C.ws i=none):
 Calls Tryz.prog 135 #[.pointer (some ⟨bc,0,none⟩),.int .i64 i,.agg b.toArray] w λe w'=>e=.returned (.tuple #[])/\(∃G,Chg w' bc bd G (C.put i b)/\∀k,G k->T k\/w.heap.size<=k)/\za T w w':=by
 obtain⟨p,u⟩:=I;have F:Hid _:=h;have n:Hid (za (λ_=>False) w (w.alloc (.cells b.toArray 154))):=za.alloc _ _ _;change Hid _ at B;clear h;obtain⟨o,v,q,s,t⟩:=eZ Tryz.infoCw;have l:Hid (Tryz.prog.info? 160=some o/\o.zero=some (.agg yu.toArray)/\o.size=129/\o.bytes=136):=⟨v,q,s,t⟩;clear v q s t;go_enter Tryz.func135,Tryz.ntmps135;go_wp2_with (go_at_call 172;refine(xi _ bc bd T C a cap (F.kept n nF) i).mono ?_;rintro e d ⟨rfl,j⟩;rw [B.out];unfold Gn;have c:Hid _:=(F.kept n nF).kept j nF;have K:Hid (d.heap[w.heap.size]? =some (.cells b.toArray 154 (0,0))):=(j.block w.heap.size (by simp) (λM=>M)).trans (ac w _);change Hid _ at j);have S:=c.c1;have J:=c.lt bc c.bcT;have Q:(uL (.pointer (some ⟨w.heap.size,0,none⟩))).run Tryz.prog d.drew=.ok (.agg b.toArray) d.drew:=xN _ _ _ b (zR (w:=d.drew) K) p;have y:Hid (((d.alloc (.cells (.int .i64 (i:Int)::b).toArray 160)).drew).ownsRow 0 160 129 (.slice a C.ws.length cap) C.ws.length (C.ws.map zN).flatten):=c.row.alloc _
 go_region_law ((refine step_append_lies _ rfl (.tmp 24) (.tmp 28) 156 rfl 0 160 o _ 129 136 Tryz.underlying156 l.1 l.2.1 l.2.2.1 l.2.2.2 (congrArg (· +1) zH.1) (by omega) (.slice a C.ws.length cap) C.ws.length _ (by rfl) y ⟨d.heap.size,0,none⟩ 1 1 (.int .i64 (i:Int)::b) (by rfl) (by simp [p]) (World.news_of_block (w:=(d.alloc (.cells (.int .i64 (i:Int)::b).toArray 160)).drew) (ac d _)) (aQ.2 ⟨rfl,u⟩) (by omega) (by unfold maxLen;omega) (by omega) (aj _) (d.heap.size+1) (by simp) ?_;intro g L H m f r N;have z:Hid _:=qD.pushed c D _ i b ⟨p,u⟩ g L m f r;have O:H.cell? ⟨bc,1,none⟩=some (.slice a C.ws.length cap):=(f.cell_far ⟨bc,1,none⟩ (by simp;omega) (λe=>c.ap e.symm)).trans (by simpa using c.kept (za.alloc (λ_=>False) d _) nF |>.c1);have R:H.frozen? ⟨bc,1,none⟩=false:=(f.frozen_far ⟨bc,1,none⟩ (by simp;omega) (λe=>c.ap e.symm)).trans (by simpa using c.kept (za.alloc (λ_=>False) d _) nF |>.fz 1);clear m f r))
 all_goals
  go_wp2;go_end0;have P:w.heap.size+1<=d.heap.size:=by have:=j.size;simpa using this
  have A:=n.trans j iL;refine⟨rfl,⟨_,⟨_,_,by rw [jJ b B.out];exact z.1⟩,λk x=>?_⟩,(A.mono fE).trans z.2.2 (λk x=>.inl x)⟩;rcases z.2.1 k x with E|E;.exact .inl E
  .right;omega
end
theorem Xt(w:World)(bc bd:Nat)(T:Nat->Prop)(C:Ck)(g cap:Nat)(h:qD w bc bd T C (some ⟨g,0,none⟩) cap)(i k:Nat)(b:List Value)(m:zT b)(r:yg C.ws i=some k):
 Calls Tryz.prog 135 #[.pointer (some ⟨bc,0,none⟩),.int .i64 i,.agg b.toArray] w λe w'=>e=.returned (.tuple #[])/\Chg w' bc bd T (C.put i b)/\za T w w':=by
 obtain⟨s,l⟩:=jy b r;have q:Hid _:=h;have f:Hid (za (λ_=>False) w (w.alloc (.cells b.toArray 154))):=za.alloc _ _ _;have t:=m.1;have G:=m.2;have o:T g:=(h.own g).2 (.inr rfl);have A:bc≠g:=λe=>h.ap (by rw [<-e];rfl);change Hid _ at l r m;clear h;have F:(k:Int)<(C.ws.length:Int):=by omega
 go_enter Tryz.func135,Tryz.ntmps135;go_wp2_with (go_at_call 172;refine(xi _ bc bd T C _ cap (q.kept f nF) i).mono ?_;rintro e d ⟨rfl,a⟩;rw [r.out];unfold Gn;have c:Hid _:=(q.kept f nF).kept a nF;have u:Hid (d.heap[w.heap.size]? =some (.cells b.toArray 154 (0,0))):=(a.block w.heap.size (by simp) (λx=>x)).trans (ac w _);change Hid _ at a);have I:=c.c1
 have E:d.there g (k*129+1) 128:=λj J=>by have n:=c.row;rw [show C.ws.length=(C.ws.map zN).length from by simp] at n;have:=dp n c.wlen k (by simpa using s) (j+1) (by omega);rw [lH,iG 1 j];exact this
 have B:=zR u.out;have H:=q.lt g o;have y:w.heap.size≠g:=by omega
 have D:=yK;have z:(Tryz.prog.info? 154).map (·.size)=some b.length:=by rw [t];exact zZ Tryz.infoPage
 go_region_held3 (λw'=>w'.cell? ⟨bc,1,none⟩=some (.slice (some ⟨g,0,none⟩) C.ws.length cap)/\w'.rangeAt w.heap.size 0 b/\w'.there g (k*129+1) 128)
  ((go_split_ands;simp only [World.rangeAt_drew,World.there_drew,World.cell?_drew] at *; refine⟨?_,?_,?_⟩<;>first|assumption|(rw [World.cell?_setCells_out _ _ _ _ _ (by intro v _;simp at v;omega)];assumption)|(refine World.rangeAt_setCells_apart (by assumption) _ _ _ (by omega))|(apply World.there_setCells;assumption)))
  (fail)
 go_wp2;refine bodyPost_ret (results_none rfl _ _ _) rfl ?_;have p:za (λ_=>False) w d.drew:=(f.trans a iL).trans (za.drew _ _) iL;have n:=(c.kept (za.drew (λ_=>False) d) nF).reset k s b m.out;exact⟨rfl,⟨_,_,by rw [l.out];exact n⟩,(p.mono fE).trans (za.setCells (S:=T) g o b (k*129+1) d.drew) iL⟩
theorem jz(w:World)(bc bd:Nat)(S T:Nat->Prop)(D:Dk)(C:Ck)(h:Cw w bc bd S T D C)(i:Nat)(b:List Value)(p:zT b)(m:C.ws.length<1000):
 Calls Tryz.prog 135 #[.pointer (some ⟨bc,0,none⟩),.int .i64 i,.agg b.toArray] w λe w'=>e=.returned (.tuple #[])/\(∃f,Cw w' bc bd S f D (C.put i b)/\∀k,f k->T k\/w.heap.size<=k)/\za T w w':=by
 obtain⟨a,cap,n⟩:=h.chg;have r:=h.disk.lt
 cases j:yg C.ws i with
 |none=>
  refine(QR w bc bd T C a cap n i b p m j).mono ?_;rintro e w' ⟨l,⟨f,h2,o⟩,d⟩
  exact⟨l,⟨f,⟨h.disk.kept d h.apart,h2,λk c s=>by
   rcases o k s with q|q;.exact h.apart k c q
   .have:=r k c;omega⟩,o⟩,d⟩
 |some k=>
  obtain⟨c,_⟩:=jy b j;obtain⟨g,rfl⟩:=n.rowAt (by omega);refine(Xt w bc bd T C g cap n i k b p j).mono ?_;rintro e w' ⟨l,h2,d⟩;exact⟨l,⟨T,⟨h.disk.kept d h.apart,h2,h.apart⟩,λk c=>.inl c⟩,d⟩
theorem dS(w:World)(b:Nat)(t:TypeId)(l:List UInt8)(h:yN w b t l)(k c cap:Nat)(j:k=4\/k=5)(d:c+zk k<=l.length)(a:zk k<=cap)(e:En)(f:e.Ok)(g:(l.drop c).take 8=List.replicate 8 0):
 Calls Tryz.prog 193 #[.int .u8 (k:Int),.slice (some ⟨b,c,none⟩) (zk k) cap,.agg #[.string e.pl.key,.int .i64 e.pl.num,.bool e.mark,.int .i64 (e.size:Int),.int .i64 (e.at_:Int)]] w λr w'=>r=.returned (.tuple #[])/\yN w' b t (qG l c (jP k e))/\za (λi=>i=b) w w':=by
 rcases j with rfl|rfl;.exact uK w b t l h c cap d a e f g
 .exact fX w b t l h c cap d a e f g
theorem QS(k:Nat)(a:List En)(i:Nat)(b:i<a.length):(zc k (a.take i)).push (jP k a[i])=zc k (a.take (i+1)):=by
 unfold zc Pg.push;rw [ao b,eh];rfl
theorem Xu{p:Pg}(h:p.Ok)(d:(p.items.length+1)*zk p.kind<=124)(e:p.items.length+1<=124)(a:8<=zk p.kind):(((p.grown 1).bytes.drop (4+p.items.length*zk p.kind)).take 8)=List.replicate 8 0:=by
 have g:=h.grown 1 d e;have i:p.items.length<(p.grown 1).items.length:=by rw [Pg.grown_len];omega
 have c:=g.item p.items.length i;have h2:(p.grown 1).items[p.items.length]=List.replicate (zk p.kind) 0:=by simp [Pg.grown]
 have f:(p.grown 1).kind=p.kind:=rfl;rw [h2,f] at c;have b:=congrArg (List.take 8) c;rw [iu,a8 a,List.take_replicate,a8 a] at b;exact b
theorem qg.below{P:Nat->Prop}{b:List En}(h:qg w P a b):qg w (λj=>P j/\j<w.heap.size) a b:=
 ⟨h.at_.imp id (λ⟨g,f,e,h2,c,d⟩=>⟨g,f,e,⟨h2,c⟩,c,d⟩),h.few⟩
section
attribute [local go_sem ↓] jx
theorem VO(w:World)(bc bd:Nat)(S T:Nat->Prop)(D:Dk)(C:Ck)(h:Cw w bc bd S T D C)(P:Nat->Prop)(a:Option Addr)(cap:Nat)(k:Nat)(Q:k=4\/k=5)(c:List En)(aL:qg w P a c)(af:∀e∈c,e.Ok)(aV:c.length<=6)(I:Nat)(au:C.ws.length<1000):
 Calls Tryz.prog 173 #[.agg #[.int .u8 (k:Int),.slice a c.length cap],.pointer (some ⟨bc,0,none⟩),.int .i64 I] w λr w'=>r=.returned (.tuple #[])/\(∃aH,Cw w' bc bd S aH D (C.put I (zm (zc k c)))/\∀j,aH j->T j\/w.heap.size<=j)/\za T w w':=by
 obtain⟨W,ae,bs⟩:∃W:List Value,W=zX/\∀w,(zeroValue 154).run Tryz.prog w=.ok (.agg W.toArray) w:=⟨zX,rfl,zY Tryz.infoPage⟩;have aM:Hid (zT W):=by rw [ae];exact zH
 clear ae;have be:Hid _:=zZ Tryz.infoPage;have ap:Hid _:=h;have U:k<=6:=by rcases Q with rfl|rfl<;>omega
 have R:Hid _:=yf (Pg.new_ok k U);have aB:Hid (za (λ_=>False) w (w.alloc (.cells #[.int .u8 (k:Int),.slice a c.length cap] 209))):=za.alloc _ _ _;have aa:8<=zk k/\zk k<=20:=by rcases Q with rfl|rfl<;>decide
 change Hid _ at aL;clear h;go_enter Tryz.func173,Tryz.ntmps173
 go_wp2_with (first
  |(go_at_call 131;refine(jH _ k U).mono ?_;rintro r f ⟨rfl,O⟩;have s:f.heap[w.heap.size]? =_:=(O.block w.heap.size (by simp) (λv=>v)).trans (ac w _);have bo:f.cell? ⟨w.heap.size,1,none⟩=some (.slice a c.length cap):=(cR s rfl);have aF:=(lT s);change Hid _ at O s)
  |(show wpList _ _ _ ({dst:=none,op:=.store _ (.tmp 6) (.tmp 11),type:=_,pos:=_,after:=_,guard:=_}::_) _ _;refine zi rfl 154 (.tmp 6) (.tmp 11) rfl _ _ (zm (Pg.new k)) (by simp) rfl rfl (by rw [R.1];exact be) (by rw [aq,aM.1,R.1]) R.2 ?_))
 have aE:Hid (qR (f.alloc (.cells (zm (Pg.new k)).toArray 154)) f.heap.size (zc k (c.take 0))):=⟨⟨ac f _⟩,Pg.new_ok k U⟩;have J:Hid (za (λ_=>False) w (f.alloc (.cells (zm (Pg.new k)).toArray 154))):=(aB.trans O iL).trans (za.alloc _ _ _) iL;have ar:Hid ((f.alloc (.cells (zm (Pg.new k)).toArray 154)).heap[w.heap.size]? =some (.cells #[.int .u8 (k:Int),.slice a c.length cap] 209 (0,0))):=((za.alloc (λ_=>False) f _).block w.heap.size aF (λv=>v)).trans s.out;have bk:(f.alloc (.cells (zm (Pg.new k)).toArray 154)).heap.size=f.heap.size+1:=by simp
 generalize (f.alloc (.cells (zm (Pg.new k)).toArray 154))=bg at*;go_loopw [15] (λt wr=>∃(i:Nat),i<=c.length/\t=.int .i64 i/\za (λj=>j=f.heap.size) bg wr/\qR wr f.heap.size (zc k (c.take i))) (λt _=>c.length-(intOf t).toNat)
 case atStart=>exact⟨0,aj _,rfl,za.refl _ _,aE⟩
 case round=>
  obtain⟨i,bu,rfl,l,x⟩:=hrel;have d:(zc k (c.take i)).items.length=i:=by simp [zc];omega
  have A:=(l.block w.heap.size (by omega) (by omega)).trans ar.out;have aJ:wr.cell? ⟨w.heap.size,0,none⟩=some (.int .u8 (k:Int)):=cR A rfl;have aD:=(lT A);have bf:=x.bs.lt;have an:Hid _:=(aL.below.kept J nF).kept l (λj z al=>by omega);change Hid _ at l x A;by_cases N:i<c.length
  .obtain⟨g,bC,rfl⟩:=an.base (by omega);obtain⟨bw,bA,bt,bB,bv,bp,bj⟩:=an.cells i N;have ah:Hid c[i].Ok:=af _ (ai N);have aK:Hid _:=QS k c i N;generalize c[i]=e at*;have az:(i:Int)<(c.length:Int):=by omega
   go_wp2;have X:(wr.alloc (.cells (qt e).toArray 109))=(wr.alloc (.cells #[.string e.pl.key,.int .i64 e.pl.num,.bool e.mark,.int .i64 (e.size:Int),.int .i64 (e.at_:Int)] 109)):=rfl;have n:Hid ((wr.alloc (.cells (qt e).toArray 109)).heap[wr.heap.size]? =some (.cells (qt e).toArray 109 (0,0))):=ac wr _;have E:Hid (za (λ_=>False) wr (wr.alloc (.cells (qt e).toArray 109))):=za.alloc _ _ _;have aS:(wr.alloc (.cells (qt e).toArray 109)).heap.size=wr.heap.size+1:=by simp
   rw [X] at n E aS;clear X;generalize (wr.alloc (.cells #[.string e.pl.key,.int .i64 e.pl.num,.bool e.mark,.int .i64 (e.size:Int),.int .i64 (e.at_:Int)] 109))=o at*;have bi:o.cell? ⟨wr.heap.size,0,none⟩=some (.string e.pl.key):=cR n.out rfl;have bl:o.cell? ⟨wr.heap.size,1,none⟩=some (.int .i64 e.pl.num):=cR n.out rfl;have br:o.cell? ⟨wr.heap.size,2,none⟩=some (.bool e.mark):=cR n.out rfl;have bq:o.cell? ⟨wr.heap.size,3,none⟩=some (.int .i64 (e.size:Int)):=cR n.out rfl;have bm:o.cell? ⟨wr.heap.size,4,none⟩=some (.int .i64 (e.at_:Int)):=cR n.out rfl;have ax:=(E.cell (a:=⟨w.heap.size,0,none⟩) aD (λv=>v)).trans aJ;have aQ:Hid _:=(x.kept E (λv=>v)).kept (za.drew (λ_=>False) o) (λv=>v)
   have u:(i+1)*zk k<=124:=by
    have a9:i+1<=6:=by omega
    have:=Nat.mul_le_mul a9 aa.2;omega
   have aw:Hid (vf f.heap.size (zc k (c.take i)).kind (zc k (c.take i)).items.length 1=.slice (some ⟨f.heap.size,4+i*zk k,none⟩) (zk k) (124-i*zk k)):=by show vf _ _ _ _=_;rw [d];unfold vf;rw [iU];rfl
   have L:Hid _:=x.ok;have K:Hid _:=Xu (p:=zc k (c.take i)) L (by rw [d];exact u) (by rw [d];omega) aa.1;have aR:Hid _:=QF ah Q;have B:Hid _:=L.push_over (jP k e) aR (by rw [d];exact u);have av:Hid (zc k (c.take (i+1))).Ok:=cO Q (λbx aY=>af bx (aP aY)) (by rw [aC];omega);have aX:(i+1)*zk k=i*zk k+zk k:=Nat.succ_mul ..;rw [aK.out] at B;rw [d] at K B;have M:(zc k (c.take i)).kind=k:=rfl;rw [M] at K B;have aA:Hid _:=(L.grown 1 (by rw [d];exact u) (by rw [d];omega)).len;generalize bn:zc k (c.take i)=p at*
   go_region_held3 (λw'=>w'.cell? ⟨w.heap.size,0,none⟩=some (.int .u8 (k:Int))/\w'.cell? ⟨wr.heap.size,0,none⟩=some (.string e.pl.key)/\w'.cell? ⟨wr.heap.size,1,none⟩=some (.int .i64 e.pl.num)/\w'.cell? ⟨wr.heap.size,2,none⟩=some (.bool e.mark)/\w'.cell? ⟨wr.heap.size,3,none⟩=some (.int .i64 (e.size:Int))/\w'.cell? ⟨wr.heap.size,4,none⟩=some (.int .i64 (e.at_:Int))) (go_keep) (first
    |(go_at_call 133;refine(vg _ _ _ (by exact aQ) 1 (by rw [d,M];exact u) (by rw [d];omega) (by rw [M];omega)).mono ?_;rintro r H ⟨am,Z,F⟩;rw [aw.out] at am;subst am;have ao:=(F.cell (a:=⟨w.heap.size,0,none⟩) (show w.heap.size<o.heap.size by omega) (by show ¬w.heap.size=f.heap.size;omega)).trans ax;have m:=(F.block wr.heap.size (show wr.heap.size<o.heap.size by omega) (by omega)).trans n.out;have a4:H.cell? ⟨wr.heap.size,0,none⟩=some (.string e.pl.key):=(cR m rfl);have a3:H.cell? ⟨wr.heap.size,1,none⟩=some (.int .i64 e.pl.num):=(cR m rfl);have a2:H.cell? ⟨wr.heap.size,2,none⟩=some (.bool e.mark):=(cR m rfl);have a1:H.cell? ⟨wr.heap.size,3,none⟩=some (.int .i64 (e.size:Int)):=(cR m rfl);have a0:H.cell? ⟨wr.heap.size,4,none⟩=some (.int .i64 (e.at_:Int)):=(cR m rfl);have aN:=(lT m);change Hid _ at Z F m)
    |(go_at_call 193;refine(dS _ _ _ _ (by exact Z.bs) k (4+i*zk k) (124-i*zk k) Q (by rw [aA.out];omega) (by omega) e ah (by exact K)).mono ?_;rintro r y ⟨rfl,V,G⟩;rw [B.out] at V;have aZ:=(G.cell (a:=⟨w.heap.size,0,none⟩) (show w.heap.size<H.heap.size by omega) (by show ¬w.heap.size=f.heap.size;omega)).trans ao;have q:=(G.block wr.heap.size aN (by omega)).trans m.out;have aT:y.cell? ⟨wr.heap.size,0,none⟩=some (.string e.pl.key):=(cR q rfl);have bb:y.cell? ⟨wr.heap.size,1,none⟩=some (.int .i64 e.pl.num):=(cR q rfl);have a8:y.cell? ⟨wr.heap.size,2,none⟩=some (.bool e.mark):=(cR q rfl);have aU:y.cell? ⟨wr.heap.size,3,none⟩=some (.int .i64 (e.size:Int)):=(cR q rfl);have aW:y.cell? ⟨wr.heap.size,4,none⟩=some (.int .i64 (e.at_:Int)):=(cR q rfl);change Hid _ at V G;clear q))
   have aI:Hid (za (λj=>j=f.heap.size) bg y):=((l.trans (E) fE).trans (za.trans (b:=o.drew) (za.drew _ o) F iL) iL).trans G iL;have ay:Hid (qR y f.heap.size (zc k (c.take (i+1)))):=⟨V,av⟩;go_wp2;go_roundw;.exact⟨i+1,by omega,rfl,aI,ay⟩
   .show c.length-((i:Int)+1).toNat<c.length-(i:Int).toNat;omega
  .have aG:i=c.length:=by omega
   subst aG;have az:¬(c.length:Int)<(c.length:Int):=by omega
   have ag:Hid (qR wr f.heap.size (zc k c)):=by have:=x.out;rw [eN] at this;exact this
   have ab:Hid _:=yf ag.ok;have bh:(uL (.pointer (some ⟨f.heap.size,0,none⟩))).run Tryz.prog wr=.ok (.agg (zm (zc k c)).toArray) wr:=xN _ _ _ _ (zR ag.bs.at_) ab.1
   have aO:Hid (Cw wr bc bd S T D C):=by have ba:=ap.disk.lt;have a5:=ap.chg.lt;exact(ap.kept0 J).kept l (λj z al=>by have:=ba j z;omega) (λj z al=>by have:=a5 j z;omega)
   go_wp2_with (go_at_call 135;refine(jz _ bc bd S T D C aO I _ ab au).mono ?_;rintro r bz ⟨rfl,⟨a6,ak,ad⟩,Y⟩;change Hid _ at ak ad Y);go_end0;refine⟨rfl,⟨a6,ak,λj z=>(ad j z).imp id (λh=>by omega)⟩,?_⟩;have a7:za T w wr:=(J.mono fE).trans l (λj z=>.inr (by omega));exact a7.trans Y iL
end
end prog
namespace prog
variable {m:List UInt8}{i:Nat}
def zS(m:List UInt8):Pg:=⟨3,0,m.map λb=>[b]⟩
theorem gK(m:List UInt8):(m.map λb=>[b]).flatten=m:=by
 induction m with
 |nil=>rfl
 |cons b m a=>simp [a]
theorem xX(h:m.length=124):(zS m).Ok where
 kind:=by simp [zS]
 link:=by simp [zS]
 wide:=λi a=>by obtain⟨b,_,rfl⟩:=au.1 a;rfl
 fits:=by simp [zS,zk,h]
 few:=by simp [zS,h]
theorem jK(h:m.length=124):(zS m).bytes=[3,124,0,0]++m:=by
 simp [Pg.bytes,zS,zk,h,gK,bytesOf]
def kM:List UInt8:=List.replicate 124 0
theorem Km:kM.length=124:=by simp [kM]
theorem Kn:(Pg.new 3).grown 124=zS kM:=by
 simp [Pg.grown,Pg.new,zS,kM,zk]
def zU(m:List UInt8)(i:Nat):Bool:=(m.getD (i/8) 0).toNat.testBit (i%8)
def uh(m:List UInt8)(i:Nat):List UInt8:=m.set (i/8) (UInt8.ofNat ((m.getD (i/8) 0).toNat|||2^(i%8)))
def jR(m:List UInt8)(i:Nat):List UInt8:=m.set (i/8) (UInt8.ofNat ((m.getD (i/8) 0).toNat&&&(255^^^2^(i%8))))
theorem QT(m:List UInt8)(i:Nat):(uh m i).length=m.length:=by simp [uh]
theorem VP(m:List UInt8)(i:Nat):(jR m i).length=m.length:=by simp [jR]
theorem Xv(i:Nat):2^(i%8)<256:=by
 have h:i%8<=7:=by omega
 have:=lf (show 0<2 by omega) h;omega
theorem uM(r s:Nat):(2^r).testBit s=decide (r=s):=Nat.testBit_two_pow
theorem VQ(s:Nat)(h:s<8):(255:Nat).testBit s=true:=by
 have:(255:Nat)=2^8-1:=rfl;rw [this,Nat.testBit_two_pow_sub_one];simpa using h
theorem QU{v:Nat}(a:v<256)(b:i/8<m.length)(j:Nat):
 zU (m.set (i/8) (UInt8.ofNat v)) j=if j/8=i/8 then v.testBit (j%8) else zU m j:=by
 unfold zU;by_cases e:j/8=i/8
 .rw [aB e,e,aA,lA b,iT];simp [mF a]
 .rw [aw e,aA,iK (iw e),<-aA]
theorem Ko(b:i/8<m.length)(j:Nat):zU (uh m i) j=(zU m j||decide (j=i)):=by
 have a:(m.getD (i/8) 0).toNat|||2^(i%8)<256:=Nat.or_lt_two_pow (n:=8) (m.getD (i/8) 0).toNat_lt (Xv i);unfold uh;rw [QU a b];split
 next e=>
  rw [Nat.testBit_or,uM];unfold zU;rw [e];congr 1;simp;omega
 next e=>rw [decide_eq_false (by intro h;rw [h] at e;exact e rfl),Bool.or_false]
theorem Kp(b:i/8<m.length)(j:Nat):zU (jR m i) j=(zU m j&&decide (j≠i)):=by
 have a:(m.getD (i/8) 0).toNat&&&(255^^^2^(i%8))<256:=mr mJ (m.getD (i/8) 0).toNat_lt;unfold jR;rw [QU a b];split
 next e=>
  rw [mK,Nat.testBit_xor,uM,VQ _ (by omega)];unfold zU;rw [e];congr 1;by_cases h:j=i;.subst h;simp
  .have:i%8≠j%8:=by omega
   simp [h,this]
 next e=>rw [aJ (by intro h;rw [h] at e;exact e rfl),Bool.and_true]
theorem Xw(i:Nat):zU kM i=false:=by
 unfold zU kM;rw [aA,List.getElem?_replicate];split<;>simp
end prog
namespace prog
open Go.ChangeShapes Go.WideShapes Go.ChangeAt Go.RowKit disk ref
open keys (zh ze zy zs)
def gL(r:Nat):Int:=((2^r:Nat):Int)
theorem gM(w:World)(i:Nat)(b:i<=1000000):Calls Tryz.prog 171 #[.int .i64 ((i:Int)+21)] w λe w'=>e=.returned (.tuple #[.int .i64 (i/8:Nat),.int .u8 (gL (i%8))])/\∃n,w'=w.drewN n:=by
 go_enter Tryz.func171,Tryz.ntmps171;go_wp2
 go_region
 go_wp2;go_ret2;have a:=Xv i
 have e:((2:Int)^(i%8))%256=gL (i%8):=by
  unfold gL;have:((2:Int)^(i%8))=((2^(i%8):Nat):Int):=by simp
  rw [this];generalize 2^(i%8)=c at*;omega
 exact⟨by rw [<-e];simp,1,rfl⟩
theorem gN{w:World}{r:Nat}{t:TypeId}{b a:List Value}(h:w.heap[r]? =some (.cells b.toArray t (0,0)))(c:a.length=b.length):(w.setCells r 0 a).heap[r]? =some (.cells a.toArray t (0,0)):=by
 rw [qa r t a 0 w _ h (by simp [c])];congr 3;rw [mn,aK,eo (by simp [c]),aM]
structure qF (b:List Value) (m:List UInt8):Prop where
 len:m.length=124
 is:b=zm (zS m)\/(b=zm (Pg.new 0)/\m=kM)
theorem uN(w:World)(bc bd:Nat)(S T:Nat->Prop)(D:Dk)(C:Ck)(h:Cw w bc bd S T D C)(m:List UInt8)(J:qF (C.look D 2) m)(Q:0<=D.reads)(U:D.reads<=4611686018427387904):
 Calls Tryz.prog 170 #[.pointer (some ⟨bc,0,none⟩)] w λe w'=>e=.returned (.agg (zm (zS m)).toArray)/\(∃n:Int,0<=n/\n<=1/\Cw w' bc bd S T {D with reads:=D.reads+n} C)/\za (λk=>k=bd) w w':=by
 obtain⟨g,R,ah⟩:∃g:List Value,g=zX/\∀w,(zeroValue 154).run Tryz.prog w=.ok (.agg g.toArray) w:=⟨zX,rfl,zY Tryz.infoPage⟩;have i:Hid (zT g):=by rw [R];exact zH
 clear R;have o:Hid _:=zZ Tryz.infoPage;have ab:Hid _:=h;have ag:=h.disk.lt bd h.disk.bdS;have ae:Hid _:=J;have b:Hid _:=yf (xX J.len);have z:Hid _:=h.disk.lt;have I:Hid _:=h.chg.lt;clear h;have s:Hid (za (λ_=>False) w (w.alloc (.cells g.toArray 154))):=za.alloc _ _ _;rcases J.is with K|⟨K,af⟩
 .have Y:Hid _:=K;clear K J;go_enter Tryz.func170,Tryz.ntmps170
  go_wp2_with (first
   |(go_at_call 192;refine(kh _ bc bd S T D C (ab.kept0 s) 2 (by constructor<;>omega) Q U).mono ?_;rintro e a ⟨rfl,d,c⟩;rw [Y.out];have G:Hid _:=d;have q:Hid _:=c;have O:Hid (a.heap[w.heap.size]? =some (.cells g.toArray 154 (0,0))):=(c.block w.heap.size (by simp) (by omega)).trans (ac w _);clear d c)
   |(show wpList _ _ _ ({dst:=none,op:=.store _ (.tmp 3) (.tmp 5),type:=_,pos:=_,after:=_,guard:=_}::_) _ _;refine zi rfl 154 (.tmp 3) (.tmp 5) rfl _ _ (zm (zS m)) (by simp) rfl rfl (by rw [b.1];exact o) (by rw [aq,i.1,b.1]) b.2 ?_;have M:Hid (qR (a.alloc (.cells (zm (zS m)).toArray 154)) a.heap.size (zS m)):=⟨⟨ac a _⟩,xX ae.len⟩)
   |(go_at_call 144;refine(ve _ _ _ M).mono ?_;rintro e P ⟨rfl,rfl⟩;have B:(zS m).kind=3:=rfl;rw [B])
   |(show wpList _ _ _ ({dst:=some 11,op:=.load _ _,type:=_,pos:=_,after:=_,guard:=_}::_) _ _;refine wpList_load_mid rfl 154 (.tmp 3) rfl _ _ rfl (zm (zS m)) _ (zR M.bs.at_) yK rfl (by rw [b.1];exact o) ?_;have r:Hid ((a.alloc (.cells (zm (zS m)).toArray 154)).heap[w.heap.size]? =some (.cells g.toArray 154 (0,0))):=((za.alloc (λ_=>False) a _).block w.heap.size (lT O) (λW=>W)).trans O)
   |(show wpList _ _ _ ({dst:=none,op:=.store _ (.tmp 2) (.tmp 11),type:=_,pos:=_,after:=_,guard:=_}::_) _ _;refine wpList_store_mid rfl 154 (.tmp 2) (.tmp 11) rfl _ _ _ rfl rfl (by have:=yd r.out;rw [i.1] at this;simpa [b.1] using this) (by rw [aq,b.1];exact o) (all_oneCell_toArray b.2) ?_))
  have N:za (λk=>k=bd) w ((a.alloc (.cells (zm (zS m)).toArray 154)).setCells w.heap.size 0 (zm (zS m))):=
   (((s.mono fE).trans q iL).trans (za.alloc _ _ _) iL).trans (za.setCells (S:=λk=>k=w.heap.size) w.heap.size rfl _ 0 _) (λj l=>.inr (by rw [l];exact aF _))
  have H:=gN r (show (zm (zS m)).length=g.length by rw [b.1,i.1]);refine bodyPost_ret (v:=.agg (zm (zS m)).toArray) (results_cell_row Tryz.results170 _ _ w.heap.size 154 _ (0,0) _ rfl H yK rfl (by rw [aq,b.1];exact o)) rfl ⟨rfl,?_,N⟩;obtain⟨n,L,y,d⟩:=G.out;exact⟨n,L,y,(d.kept0 (za.alloc _ _ _)).kept (za.setCells (S:=λk=>k=w.heap.size) w.heap.size rfl _ 0 _) (λk f e=>by have:=z.out k f;omega) (λk f e=>by have:=I.out k f;omega)⟩
 .have Y:Hid _:=K;subst af;clear K J;have F:Hid (zT (zm (Pg.new 0))):=yf (Pg.new_ok 0 (by omega));have t:Hid (zT (zm (Pg.new 3))):=yf (Pg.new_ok 3 (by omega));go_enter Tryz.func170,Tryz.ntmps170
  go_wp2_with (first
   |(go_at_call 192;refine(kh _ bc bd S T D C (ab.kept0 s) 2 (by constructor<;>omega) Q U).mono ?_;rintro e a ⟨rfl,d,c⟩;rw [Y.out];have G:Hid _:=d;have q:Hid _:=c;have O:Hid (a.heap[w.heap.size]? =some (.cells g.toArray 154 (0,0))):=(c.block w.heap.size (by simp) (by omega)).trans (ac w _);clear d c)
   |(show wpList _ _ _ ({dst:=none,op:=.store _ (.tmp 3) (.tmp 5),type:=_,pos:=_,after:=_,guard:=_}::_) _ _;refine zi rfl 154 (.tmp 3) (.tmp 5) rfl _ _ (zm (Pg.new 0)) (by simp) rfl rfl (by rw [F.1];exact o) (by rw [aq,i.1,F.1]) F.2 ?_;have M:Hid (qR (a.alloc (.cells (zm (Pg.new 0)).toArray 154)) a.heap.size (Pg.new 0)):=⟨⟨ac a _⟩,Pg.new_ok 0 (by omega)⟩)
   |(go_at_call 144;refine(ve _ _ _ M).mono ?_;rintro e P ⟨rfl,rfl⟩;have B:(Pg.new 0).kind=0:=rfl;rw [B])
   |(go_at_call 131;refine(jH _ 3 (by omega)).mono ?_;rintro e P ⟨rfl,p⟩;have V:Hid (P.heap[a.heap.size]? =some (.cells (zm (Pg.new 0)).toArray 154 (0,0))):=(M.kept p (λW=>W)).bs.at_;change Hid _ at p)
   |(show wpList _ _ _ ({dst:=none,op:=.store _ (.tmp 3) (.tmp 8),type:=_,pos:=_,after:=_,guard:=_}::_) _ _;refine wpList_store_mid rfl 154 (.tmp 3) (.tmp 8) rfl _ _ _ rfl rfl (by have:=yd V.out;rw [F.1] at this;simpa [t.1] using this) (by rw [aq,t.1];exact o) (all_oneCell_toArray t.2) ?_;have Z:Hid (qR (P.setCells a.heap.size 0 (zm (Pg.new 3))) a.heap.size (Pg.new 3)):=⟨⟨gN V (by rw [t.1,F.1])⟩,Pg.new_ok 3 (by omega)⟩)
   |(go_at_call 129;refine(j9 _ 3 (by omega)).mono ?_;rintro e x ⟨rfl,rfl⟩;have ad:room 3=124:=rfl;rw [ad])
   |(go_at_call 133;refine(vg _ _ _ Z 124 (by decide) (by decide) (by decide)).mono ?_;rintro e x ⟨rfl,E,u⟩;rw [Kn] at E;have A:Hid _:=u;change Hid _ at E;clear u)
   |(show wpList _ _ _ ({dst:=some 11,op:=.load _ _,type:=_,pos:=_,after:=_,guard:=_}::_) _ _;refine wpList_load_mid rfl 154 (.tmp 3) rfl _ _ rfl (zm (zS kM)) _ (zR E.bs.at_) yK rfl (by rw [b.1];exact o) ?_;have r:Hid (x.heap[w.heap.size]? =some (.cells g.toArray 154 (0,0))):=by {have aa:w.heap.size+1<=a.heap.size:=(by have:=q.size;simpa using this);exact(((((((za.alloc (λ_=>False) a _).trans p iL)).mono fE).trans (za.setCells (S:=λk=>k=a.heap.size) a.heap.size rfl _ 0 _) (λj l=>.inl (by omega))).trans A (λj l=>.inl (by omega)):za (λk=>a.heap.size<=k) a x).block w.heap.size (by omega) (by omega)).trans O })
   |(show wpList _ _ _ ({dst:=none,op:=.store _ (.tmp 2) (.tmp 11),type:=_,pos:=_,after:=_,guard:=_}::_) _ _;refine wpList_store_mid rfl 154 (.tmp 2) (.tmp 11) rfl _ _ _ rfl rfl (by have:=yd r.out;rw [i.1] at this;simpa [b.1] using this) (by rw [aq,b.1];exact o) (all_oneCell_toArray b.2) ?_))
  have aa:w.heap.size+1<=a.heap.size:=by have:=q.size;simpa using this
  have c:za (λk=>k=bd) w a:=(s.mono fE).trans q iL;have u:za (λk=>k=bd) w x:=((c.trans ((za.alloc (λ_=>False) a _).trans p iL) fE).trans (za.setCells (S:=λk=>k=a.heap.size) a.heap.size rfl _ 0 _) (λj l=>.inr (by omega))).trans A (λj l=>.inr (by omega));have X:za (λk=>a.heap.size<=k) a x:=(((((za.alloc (λ_=>False) a _).trans p iL)).mono fE).trans (za.setCells (S:=λk=>k=a.heap.size) a.heap.size rfl _ 0 _) (λj l=>.inl (by omega))).trans A (λj l=>.inl (by omega));have N:za (λk=>k=bd) w (x.setCells w.heap.size 0 (zm (zS kM))):=u.trans (za.setCells (S:=λk=>k=w.heap.size) w.heap.size rfl _ 0 _) (λj l=>.inr (by rw [l];exact aF _));have H:=gN r (show (zm (zS kM)).length=g.length by rw [b.1,i.1]);refine bodyPost_ret (v:=.agg (zm (zS kM)).toArray) (results_cell_row Tryz.results170 _ _ w.heap.size 154 _ (0,0) _ rfl H yK rfl (by rw [aq,b.1];exact o)) rfl ⟨rfl,?_,N⟩;obtain⟨n,L,y,d⟩:=G.out;exact⟨n,L,y,(d.kept X (λk f e=>by have:=z.out k f;omega) (λk f e=>by have:=I.out k f;omega)).kept (za.setCells (S:=λk=>k=w.heap.size) w.heap.size rfl _ 0 _) (λk f e=>by have:=z.out k f;omega) (λk f e=>by have:=I.out k f;omega)⟩
end prog
end Go.Proofs.YtcoengihaobddaaGreatDoor

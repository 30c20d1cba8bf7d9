/- Part 17 of 36 of a proof: Chg1, Chg2, Chg3, Chg4, Tree8, Map1, Chg5 -/
import Derived.Test.YtcoengihaobddaaGreatDoorJb16
set_option maxHeartbeats 8000000
set_option linter.unusedVariables false
set_option linter.unusedSimpArgs false
set_option maxRecDepth 8000
namespace Go.Proofs.YtcoengihaobddaaGreatDoor
namespace prog
open Go.ChangeShapes Go.WideShapes Go.ChangeAt Go.RowKit disk ref
open keys (zh zd zx zq)
variable {w w':World}{bc bd cap g k:Nat}{T X:Nat->Prop}{a:Option Addr}{i:Int}{D:Dk}
structure Ck where
 ws:List (Nat×List Value)
 full:Bool
structure qC (w:World) (bc bd:Nat) (T:Nat->Prop) (C:Ck) (a:Option Addr) (cap:Nat):Prop where
 ok:∀p∈C.ws,zS p.2
 head:w.heap[bc]? =some (.cells #[.pointer (some ⟨bd,0,none⟩),.slice a C.ws.length cap,.bool C.full] 197 (0,0))
 row:w.ownsRow 0 160 129 (.slice a C.ws.length cap) C.ws.length (C.ws.map zM).flatten
 own:∀k,T k↔(k=bc\/(Value.slice a C.ws.length cap).ownBlock=some k)
 ap:(Value.slice a C.ws.length cap).ownBlock≠some bc
 few:C.ws.length<=1000
theorem qC.bcT{C:Ck}(h:qC w bc bd T C a cap):T bc:=(h.own bc).2 (.inl rfl)
theorem qC.lt{C:Ck}(h:qC w bc bd T C a cap):∀k,T k->k<w.heap.size:=λk c=>by
 rcases (h.own k).1 c with rfl|b;.exact(lT h.head)
 .exact(h.row.lt k b).2
theorem qC.kept{C:Ck}(h:qC w bc bd T C a cap)(k:za X w w')(b:∀i,T i->¬X i):qC w' bc bd T C a cap:=by
 refine⟨h.ok,?_,k.owns h.row (λi c=>b i ((h.own i).2 (.inr c))),h.own,h.ap,h.few⟩;rw [k.block bc (h.lt bc h.bcT) (b bc h.bcT)];exact h.head
theorem qC.c0{C:Ck}(h:qC w bc bd T C a cap):w.cell? ⟨bc,0,none⟩=some (.pointer (some ⟨bd,0,none⟩)):=cR h.head rfl
theorem qC.c1{C:Ck}(h:qC w bc bd T C a cap):w.cell? ⟨bc,1,none⟩=some (.slice a C.ws.length cap):=cR h.head rfl
theorem qC.c2{C:Ck}(h:qC w bc bd T C a cap):w.cell? ⟨bc,2,none⟩=some (.bool C.full):=cR h.head rfl
theorem qC.fz{C:Ck}(h:qC w bc bd T C a cap)(i:Nat):w.frozen? ⟨bc,i,none⟩=false:=aa w bc i _ _ h.head
theorem qC.rowAt{C:Ck}(h:qC w bc bd T C a cap)(f:0<C.ws.length):∃g,a=some ⟨g,0,none⟩:=by
 rcases h.row.2 with⟨_,e⟩|⟨g,b,d,c,_⟩;.omega
 .cases c;exact⟨g,rfl⟩
theorem qC.wlen{C:Ck}(h:qC w bc bd T C a cap):∀b∈C.ws.map zM,b.length=129:=λb c=>by
 obtain⟨p,d,rfl⟩:=au.1 c;simp [zM,(h.ok p d).1]
theorem qC.range{C:Ck}(h:qC w bc bd T C (some ⟨g,0,none⟩) cap)(i:Nat)(b:i<C.ws.length):w.rangeAt g (i*129) (.int .i64 (C.ws[i].1:Int)::C.ws[i].2):=by
 have a:=h.row;rw [show C.ws.length=(C.ws.map zM).length from by simp] at a;have:=ym a h.wlen i (by simpa using b);simpa [zM] using this
def Chg(w:World)(bc bd:Nat)(T:Nat->Prop)(C:Ck):Prop:=∃a cap,qC w bc bd T C a cap
theorem Chg.kept{C:Ck}(h:Chg w bc bd T C)(k:za X w w')(b:∀i,T i->¬X i):Chg w' bc bd T C:=by
 obtain⟨a,cap,h⟩:=h;exact⟨a,cap,h.kept k b⟩
theorem Chg.lt{C:Ck}(h:Chg w bc bd T C):∀k,T k->k<w.heap.size:=by
 obtain⟨a,cap,h⟩:=h;exact h.lt
def yd(ws:List (Nat×List Value))(i:Int):Option Nat:=ws.findIdx? λp=>decide ((p.1:Int)=i)
def Gn:Option Nat->Int
 |some k=>k
 |none=> -1
theorem Tryz.infoCw:(Tryz.prog.info? 160).map (λi=>(i.zero,i.size,i.bytes))=some (some (.agg yq.toArray),129,136):=by kernel_rfl
theorem cU{ws:List (Nat×List Value)}(d:k<ws.length)(b:∀j (a:j<ws.length),j<k->¬(ws[j].1:Int)=i)(c:(ws[k].1:Int)=i):yd ws i=some k:=by
 unfold yd;rw [eQ];exact⟨d,by simpa using c,λj a=>by simpa using b j (by omega) a⟩
theorem QQ{ws:List (Nat×List Value)}(c:∀j (a:j<ws.length),¬(ws[j].1:Int)=i):yd ws i=none:=by
 unfold yd;rw [im];intro p b;obtain⟨j,a,rfl⟩:=ed b;simpa using c j a
theorem xe(w:World)(bc bd:Nat)(T:Nat->Prop)(C:Ck)(a:Option Addr)(cap:Nat)(h:qC w bc bd T C a cap)(i:Int):
 Calls Tryz.prog 172 #[.pointer (some ⟨bc,0,none⟩),.int .i64 i] w λe w'=>e=.returned (.int .i64 (Gn (yd C.ws i)))/\za (λ_=>False) w w':=by
 obtain⟨r,x,J⟩:∃r:List Value,r=yq/\∀w,(zeroValue 160).run Tryz.prog w=.ok (.agg r.toArray) w:=⟨yq,rfl,zX Tryz.infoCw⟩;have v:Hid (r.length=129):=by rw [x];exact congrArg (· +1) zG.1
 clear x;have m:Hid _:=zY Tryz.infoCw;have K:=h.c1;have G:=h.few;have A:Hid _:=h;clear h;go_enter Tryz.func172,Tryz.ntmps172;go_wp2;go_loopw [12] (λt wr=>∃k:Nat,k<=C.ws.length/\t=.int .i64 k/\(∀j (l:j<C.ws.length),j<k->¬(C.ws[j].1:Int)=i)/\za (λ_=>False) w wr) (λt _=>C.ws.length-(intOf t).toNat)
 case atStart=>exact⟨0,aj _,rfl,λ_ _ h=>by omega,za.refl _ _⟩
 case round=>
  obtain⟨k,L,rfl,p,c⟩:=hrel;change Hid _ at p c;by_cases o:k<C.ws.length
  .obtain⟨g,rfl⟩:=A.rowAt (by omega);have D:Hid _:=(A.kept c.out nF).range k o;have b:Hid (zS C.ws[k].2):=A.ok _ (ai o)
   have B:Hid (∀j (l:j<C.ws.length),j<k+1->¬(C.ws[k].1:Int)=i->¬(C.ws[j].1:Int)=i):=λj l u E=>by
    by_cases e:j=k;.subst e;exact E
    .exact p.out j l (by omega)
   have s:Hid ((C.ws[k].1:Int)=i->yd C.ws i=some k):=λH=>cU o p.out H;generalize I:C.ws[k]=q at*;obtain⟨f,n⟩:=q;clear I;simp only at B s;have y:Hid (za (λ_=>False) w (wr.alloc (.cells (.int .i64 (f:Int)::n).toArray 160))):=c.trans (za.alloc _ _ _) iL;by_cases d:(f:Int)=i
   .have F:((f:Int)==i)=true:=by simp [d]
    have z:Hid _:=d;clear d
    go_wp2_with (first
     |(show wpList _ _ _ ({dst:=some 16,op:=.load _ _,type:=_,pos:=_,after:=_,guard:=_}::_) _ _;refine wpList_load_mid rfl 160 (.tmp 15) rfl _ _ rfl (.int .i64 (f:Int)::n) _ D.out Tryz.underlying160 rfl (by rw [ae,b.1];exact m.out) ?_)
     |(show wpList _ _ _ ({dst:=none,op:=.store _ _ _,type:=_,pos:=_,after:=_,guard:=_}::_) _ _;refine zi rfl 160 (.tmp 6) (.tmp 16) rfl _ _ (.int .i64 (f:Int)::n) rfl rfl rfl (by rw [ae,b.1];exact m.out) (by rw [ae,b.1];simpa using v.out) (aQ.2 ⟨rfl,b.2⟩) ?_))
    go_ret;exact⟨by rw [s.out z.out];rfl,y.out⟩
   .have F:((f:Int)==i)=false:=by simpa using d
    have z:Hid _:=d;clear d
    go_wp2_with (first
     |(show wpList _ _ _ ({dst:=some 16,op:=.load _ _,type:=_,pos:=_,after:=_,guard:=_}::_) _ _;refine wpList_load_mid rfl 160 (.tmp 15) rfl _ _ rfl (.int .i64 (f:Int)::n) _ D.out Tryz.underlying160 rfl (by rw [ae,b.1];exact m.out) ?_)
     |(show wpList _ _ _ ({dst:=none,op:=.store _ _ _,type:=_,pos:=_,after:=_,guard:=_}::_) _ _;refine zi rfl 160 (.tmp 6) (.tmp 16) rfl _ _ (.int .i64 (f:Int)::n) rfl rfl rfl (by rw [ae,b.1];exact m.out) (by rw [ae,b.1];simpa using v.out) (aQ.2 ⟨rfl,b.2⟩) ?_))
    go_roundw
    case rel=>exact⟨k+1,by omega,by go_num,λj l u=>B.out j l u z.out,y.out⟩
    case measure=>simp [intOf];omega
  .have s:Hid _:=QQ (λj l=>p.out j l (by omega));go_wp2;go_ret;exact⟨by rw [s.out];rfl,c.out⟩
theorem dP(w:World)(bc bd:Nat)(T:Nat->Prop)(C:Ck)(h:Chg w bc bd T C):
 Calls Tryz.prog 139 #[.pointer (some ⟨bc,0,none⟩)] w λe w'=>e=.returned (.bool (C.full||decide (18<C.ws.length)))/\w'=w:=by
 obtain⟨a,cap,h⟩:=h;have f:=h.c1;have b:=h.c2;have d:=h.few;clear h;cases c:C.full
 .rw [c] at b;go_enter Tryz.func139,Tryz.ntmps139;go_wp2;go_ret;exact⟨zd (by simp;omega),rfl⟩
 .rw [c] at b;go_enter Tryz.func139,Tryz.ntmps139;go_wp2;go_ret;exact⟨zd (by simp),rfl⟩
theorem cV(w:World)(bd:Nat)(b:bd<w.heap.size):
 Calls Tryz.prog 73 #[.pointer (some ⟨bd,0,none⟩)] w λe w'=>e=.returned (.pointer (some ⟨w.heap.size,0,none⟩))/\Chg w' w.heap.size bd (λk=>k=w.heap.size) ⟨[],false⟩/\za (λ_=>False) w w':=by
 go_enter Tryz.func73,Tryz.ntmps73;go_wp2;go_ret;refine⟨rfl,⟨none,0,λp a=>(nomatch a),?_,aV _ 0 160 129,λk=>by simp [Value.ownBlock],by simp [Value.ownBlock],by simp⟩,za.alloc _ _ _⟩;exact ac w _
structure Cw (w:World) (bc bd:Nat) (S T:Nat->Prop) (D:Dk) (C:Ck):Prop where
 disk:zg w bd S D
 chg:Chg w bc bd T C
 apart:∀k,S k->¬T k
theorem Cw.kept{S:Nat->Prop}{C:Ck}(h:Cw w bc bd S T D C)(k:za X w w')(a:∀i,S i->¬X i)(b:∀i,T i->¬X i):Cw w' bc bd S T D C:=⟨h.disk.kept k a,h.chg.kept k b,h.apart⟩
theorem Cw.kept0{S:Nat->Prop}{C:Ck}(h:Cw w bc bd S T D C)(k:za (λ_=>False) w w'):Cw w' bc bd S T D C:=h.kept k nF nF
def Ck.look(C:Ck)(D:Dk)(i:Int):List Value:=match yd C.ws i with
 |some k=>(C.ws.getD k (0,[])).2
 |none=>D.look i
theorem xB{C:Ck}(h:yd C.ws i=some k):∃a:k<C.ws.length,C.look D i=C.ws[k].2/\(C.ws[k].1:Int)=i:=by
 have h':=h;unfold yd at h';rw [eQ] at h';obtain⟨a,b,_⟩:=h';refine⟨a,?_,by simpa using b⟩;unfold Ck.look;rw [h];simp [a]
theorem j8{C:Ck}(h:yd C.ws i=none):C.look D i=D.look i:=by unfold Ck.look;rw [h]
theorem Dk.Ok.look(h:D.Ok)(i:Int):zS (D.look i):=by
 unfold Dk.look;split
 next b=>
  refine cF ?_ (λp a=>(h.ps p a).2);rw [aA,aH (by omega),iT];exact h.bs _ (ai _)
 next=>exact zG
theorem j9(w:World)(bc bd:Nat)(S T:Nat->Prop)(D:Dk)(C:Ck)(h:Cw w bc bd S T D C)(i:Int)(Z:zD i)(Q:0<=D.reads)(W:D.reads<=4611686018427387904):
 Calls Tryz.prog 192 #[.pointer (some ⟨bc,0,none⟩),.int .i64 i] w λe w'=>e=.returned (.agg (C.look D i).toArray)/\(∃n:Int,0<=n/\n<=1/\Cw w' bc bd S T {D with reads:=D.reads+n} C)/\za (λk=>k=bd) w w':=by
 obtain⟨r,F,aj⟩:∃r:List Value,r=zW/\∀w,(zeroValue 131).run Tryz.prog w=.ok (.agg r.toArray) w:=⟨zW,rfl,zX Tryz.infoBlock⟩;have o:Hid (zS r):=by rw [F];exact zG
 clear F;have z:Hid ((Tryz.prog.info? 131).map (·.size)=some 128):=zY Tryz.infoBlock;have p:Hid _:=h;obtain⟨a,cap,f⟩:=h.chg;have ag:=f.bcT;have aa:=h.disk.lt bd h.disk.bdS;change Hid _ at f;clear h;have l:Hid (za (λ_=>False) w (w.alloc (.cells r.toArray 131))):=za.alloc _ _ _
 cases u:yd C.ws i with
 |some k=>
  obtain⟨x,V,af⟩:=xB (D:=D) u;have I:Hid _:=V;have J:Hid _:=u;obtain⟨g,rfl⟩:=f.rowAt (by omega);have b:Hid (zS C.ws[k].2):=f.ok _ (ai x);clear V u;have ah:¬(k:Int)<0:=by omega
  have ab:(k:Int)<(C.ws.length:Int):=by omega
  have Y:Hid (∀m,za (λ_=>False) w m->m.rangeAt g (k*129+1) C.ws[k].2):=λm c j v X=>by have:=(f.kept c nF).range k x (j+1) v (by simpa using X);rw [lH,iG 1 j];exact this
  generalize C.ws[k].2=d at*;go_enter Tryz.func192,Tryz.ntmps192
  go_wp2_with (first
   |(go_at_call 172;refine(xe _ bc bd T C _ cap (f.kept l nF) i).mono ?_;rintro e m ⟨rfl,c⟩;rw [J.out];unfold Gn;have s:Hid _:=c;have ad:=((f.kept l nF).kept c nF).c1;have A:Hid (m.heap[w.heap.size]? =some (.cells r.toArray 131 (0,0))):=(c.block w.heap.size (by simp) (λM=>M)).trans (ac w _);have P:Hid _:=Y.out m (l.trans c iL);clear c)
   |(show wpList _ _ _ ({dst:=some 18,op:=.load _ _,type:=_,pos:=_,after:=_,guard:=_}::_) _ _;refine wpList_load_mid rfl 131 (.tmp 17) rfl _ _ rfl d _ P Tryz.underlying131 rfl (by rw [b.1];exact z) ?_)
   |(show wpList _ _ _ ({dst:=none,op:=.store _ _ _,type:=_,pos:=_,after:=_,guard:=_}::_) _ _;refine wpList_store_mid rfl 131 (.tmp 4) (.tmp 18) rfl _ _ _ rfl rfl (by have:=yb A.out;rw [o.1] at this;simpa [b.1] using this) (by rw [aq,b.1];exact z) (all_oneCell_toArray b.2) ?_))
  have L:=z9 w.heap.size 131 d 0 m _ A (by simp [o.1,b.1]);have t:=za.setCells (S:=λk=>k=w.heap.size) w.heap.size rfl d 0 m;have q:za (λ_=>False) w (m.setCells w.heap.size 0 d):=(l.trans s iL).trans t (λj N=>.inr (by rw [N];exact aF _))
  have E:(m.setCells w.heap.size 0 d).heap[w.heap.size]? =some (.cells d.toArray 131 (0,0)):=by rw [L];congr 3;rw [mn,aK,eo (by simp [o.1,b.1]),aM]
  refine bodyPost_ret (v:=.agg d.toArray) (results_cell_row Tryz.results192 _ _ w.heap.size 131 _ (0,0) _ rfl E Tryz.underlying131 rfl (by rw [aq,b.1];exact z)) rfl ⟨by rw [I.out],⟨0,by omega,by omega,?_⟩,q.mono fE⟩;have:=p.kept0 q;simpa using this
 |none=>
  have J:Hid _:=u;have I:Hid _:=j8 (D:=D) u;have b:Hid (zS (D.look i)):=Dk.Ok.look p.disk.ok i;clear u;generalize U:D.look i=d at*;change Hid _ at U;go_enter Tryz.func192,Tryz.ntmps192
  go_wp2_with (first
   |(go_at_call 172;refine(xe _ bc bd T C _ cap (f.kept l nF) i).mono ?_;rintro e m ⟨rfl,c⟩;rw [J.out];unfold Gn;have s:Hid _:=c;have ae:=((f.kept l nF).kept c nF).c0;have A:Hid (m.heap[w.heap.size]? =some (.cells r.toArray 131 (0,0))):=(c.block w.heap.size (by simp) (λM=>M)).trans (ac w _);clear c)
   |(go_at_call 81;refine(jk _ bd S D ((p.kept0 l).kept0 s).disk i Z Q W).mono ?_;rintro e B ⟨rfl,G,y⟩;rw [U.out];have R:Hid (zg B bd S {D with reads:=D.reads+1 }):=G;have H:Hid _:=(y.block w.heap.size (lT A) (by omega)).trans A.out;change Hid _ at y;clear G)
   |(show wpList _ _ _ ({dst:=none,op:=.store _ _ _,type:=_,pos:=_,after:=_,guard:=_}::_) _ _;refine wpList_store_mid rfl 131 (.tmp 4) (.tmp 24) rfl _ _ _ rfl rfl (by have:=yb H.out;rw [o.1] at this;simpa [b.1] using this) (by rw [aq,b.1];exact z) (all_oneCell_toArray b.2) ?_))
  have L:=z9 w.heap.size 131 d 0 B _ H (by simp [o.1,b.1]);have t:=za.setCells (S:=λk=>k=w.heap.size) w.heap.size rfl d 0 B;have K:=((l.trans s iL).mono fE).trans y iL;have q:za (λk=>k=bd) w (B.setCells w.heap.size 0 d):=K.trans t (λj N=>.inr (by rw [N];exact aF _))
  have E:(B.setCells w.heap.size 0 d).heap[w.heap.size]? =some (.cells d.toArray 131 (0,0)):=by rw [L];congr 3;rw [mn,aK,eo (by simp [o.1,b.1]),aM]
  have O:∀k,S k->k<w.heap.size:=p.disk.lt;refine bodyPost_ret (v:=.agg d.toArray) (results_cell_row Tryz.results192 _ _ w.heap.size 131 _ (0,0) _ rfl E Tryz.underlying131 rfl (by rw [aq,b.1];exact z)) rfl ⟨by rw [I.out],⟨1,by omega,by omega,⟨R.kept t (λk x e=>by have:=O k x;omega),p.chg.kept q (λk x e=>p.apart bd p.disk.bdS (by rw [<-e];exact x)),p.apart⟩⟩,q⟩
def Ck.put(C:Ck)(i:Nat)(b:List Value):Ck:=match yd C.ws i with
 |some k=>{C with ws:=C.ws.set k (i,b)}
 |none=>{C with ws:=C.ws++[(i,b)]}
theorem ZP(w:World)(n:Int)(b:List Value)(h:b.length=128):
 (Instr.build 160 #[(0,.int .i64 n),(1,.agg b.toArray)]).run Tryz.prog w=.ok (.agg (.int .i64 n::b).toArray) w:=by
 have g:=zX Tryz.infoCw w;have a:yq.length=129:=congrArg (· +1) zG.1;have f:=xu Ql;have h2:=xu (zY Tryz.infoBlock);generalize k:yq=c at*;have d:¬c=[]:=λe=>by rw [e] at a;simp at a
 have i:=gr 1 b (c.set 0 (.int .i64 n)).toArray (by simp [h,a]);have j:¬(¬b.length=128\/c.length<1+b.length):=by omega
 simp only [Instr.build,ie,g,eD,ii Tryz.underlying160 w];simp [f,h2,Value.cells,Instr.fill];rw [aw d,aw j,i];simp only [iI];congr 2;apply lF
 cases c with
 |nil=>exact absurd rfl d
 |cons z l=>simp [h];simp at a;omega
theorem ZQ(w:World)(a:List Value)(h:a.length=129):
 (Instr.buildSlice 156 1 #[(0,.agg a.toArray)]).run Tryz.prog w=.ok (.slice (some ⟨w.heap.size,0,none⟩) 1 1) (w.alloc (.cells a.toArray 160)):=by
 have c:=zX Tryz.infoCw w;have h2:=xu (zY Tryz.infoCw);generalize d:yq=e at*;have b:¬(¬a.length=129\/129<a.length):=by omega
 simp only [Instr.buildSlice,ie,eD,ii Tryz.underlying156 w]
 first
  |(simp [h2,Value.cells,Instr.fill]
    rw [aw b,vt a _ (by simp [h])];simp [newRow]
    done)
  |(simp [h2,c,Value.cells,Instr.fill,hzl]
    rw [aw b,vt a _ (by simp [h])]
    simp [newRow])
def VM(parts:Array (Nat×Value)):Sem Value:=Instr.build 160 parts
theorem cW(parts:Array (Nat×Value)):Instr.build 160 parts=VM parts:=rfl
theorem dQ(w:World)(n:Int)(b:List Value)(h:b.length=128):(VM #[(0,.int .i64 n),(1,.agg b.toArray)]).run Tryz.prog w=.ok (.agg (.int .i64 n::b).toArray) w:=ZP w n b h
def VN(len:Nat)(parts:Array (Nat×Value)):Sem Value:=Instr.buildSlice 156 len parts
theorem cX(a:Nat)(parts:Array (Nat×Value)):Instr.buildSlice 156 a parts=VN a parts:=rfl
theorem dR(w:World)(c:Value)(a:List Value)(h:a.length=128):(VN 1 #[(0,.agg (c::a).toArray)]).run Tryz.prog w=.ok (.slice (some ⟨w.heap.size,0,none⟩) 1 1) (w.alloc (.cells (c::a).toArray 160)):=
 ZQ w (c::a) (by simp [h])
def uK(v:Value):Sem Value:=Instr.loadAt 154 v
theorem js(v:Value):Instr.loadAt 154 v=uK v:=rfl
theorem xI(w:World)(b d:Nat)(a:List Value)(c:w.rangeAt b d a)(h:a.length=128):(uK (.pointer (some ⟨b,d,none⟩))).run Tryz.prog w=.ok (.agg a.toArray) w:=
 run_loadAt_mid w b d 154 a _ c yH rfl (by rw [h];exact zY Tryz.infoPage)
theorem qC.pushed{d:World}{C:Ck}(h:qC w bc bd T C a cap)(x:C.ws.length<1000)(y:Obj)(i:Nat)(b:List Value)(v:zS b)(g l:Nat)
 (r:d.ownsRow 0 160 129 (.slice (some ⟨g,0,none⟩) (C.ws.length+1) l) (C.ws.length+1) ((C.ws.map zM).flatten++.int .i64 (i:Int)::b))
 (o:(w.alloc y).drew.grownBy d (Value.slice a C.ws.length cap).ownBlock) (q:(Value.slice a C.ws.length cap).ownBlock=some g\/g=w.heap.size+1):
 qC (d.setCell ⟨bc,1,none⟩ (.slice (some ⟨g,0,none⟩) (C.ws.length+1) l)) bc bd (λk=>k=bc\/k=g) {C with ws:=C.ws++[(i,b)]} (some ⟨g,0,none⟩) l/\
  (∀k,(k=bc\/k=g)->T k\/w.heap.size<=k)/\za T w (d.setCell ⟨bc,1,none⟩ (.slice (some ⟨g,0,none⟩) (C.ws.length+1) l)):=by
 have t:=h.lt bc h.bcT
 have s:g≠bc:=by
  rcases q with e|e;.exact λm=>h.ap (by rw [e,m])
  .omega
 have u:=za.grown o (λk c=>c);have c:za (λk=>(Value.slice a C.ws.length cap).ownBlock=some k) w d:=((za.alloc _ w y).trans (za.drew _ _) iL).trans u iL;have f:=za.setCell (S:=λk=>k=bc) d ⟨bc,1,none⟩ (.slice (some ⟨g,0,none⟩) (C.ws.length+1) l) rfl;have n:(C.ws++[(i,b)]).length=C.ws.length+1:=by simp
 refine⟨⟨?_,?_,?_,?_,?_,?_⟩,?_,?_⟩
 .intro p j;rcases ah.1 j with j|j;.exact h.ok p j
  .rw [az.1 j];exact v
 .simp only [n];have e:=(c.block bc t (λe=>h.ap e)).trans h.head;rw [heap_setCell_same d bc 1 _ _ _ e];rfl
 .simp only [n];have:=f.owns r (λk c e=>by simp [Value.ownBlock] at c;omega);simpa [zM] using this
 .intro k;simp only [n];simp [Value.ownBlock,my]
 .simp [Value.ownBlock];exact s
 .simp only [n];omega
 .intro k c;rcases c with rfl|rfl;.exact .inl h.bcT
  .rcases q with m|m;.exact .inl ((h.own k).2 (.inr m))
   .right;omega
 .refine(c.mono (λk c=>(h.own k).2 (.inr c))).trans f (λk c=>.inl (by rw [c];exact h.bcT))
theorem dS{j:Nat}{a:Array Value}{t:TypeId}{v:Value}(b:w.heap[g]? =some (.cells a t (0,0)))(d:a[j]? =some v):w.setCell ⟨g,j,none⟩ v=w:=by
 have c:(w.setCell ⟨g,j,none⟩ v).heap=w.heap:=by
  apply Array.ext_getElem?;intro k;by_cases e:k=g
  .subst e;rw [heap_setCell_same w k j _ _ _ b,b];congr 2;apply Array.ext_getElem?;intro m;rw [Array.getElem?_setIfInBounds];split
   next e=>subst e;rw [d,aB (lT d)]
   next=>rfl
  .exact ir w ⟨g,j,none⟩ k v e
 cases w;simp only [World.setCell] at c ⊢;rw [c]
theorem qC.reset{C:Ck}(h:qC w bc bd T C (some ⟨g,0,none⟩) cap)(k:Nat)(m:k<C.ws.length)(b:List Value)(j:zS b):
 qC (w.setCells g (k*129+1) b) bc bd T {C with ws:=C.ws.set k (C.ws[k].1,b)} (some ⟨g,0,none⟩) cap:=by
 have i:bc≠g:=λe=>h.ap (by rw [<-e];rfl);have a:(C.ws.set k (C.ws[k].1,b)).length=C.ws.length:=by simp
 refine⟨?_,?_,?_,by simp only [a];exact h.own,by simp only [a];exact h.ap,by simp only [a];exact h.few⟩
 .intro p f;rcases il f with f|rfl;.exact h.ok p f
  .exact j
 .simp only [a];rw [y6 g bc i];exact h.head
 .simp only [a];have c:=h.row;rw [show C.ws.length=(C.ws.map zM).length from by simp] at c;have h2:=dr c h.wlen k (by simpa using m) (.int .i64 (C.ws[k].1:Int)::b) (by simp [j.1]);have q:(C.ws.map zM).set k (.int .i64 (C.ws[k].1:Int)::b)=(C.ws.set k (C.ws[k].1,b)).map zM:=by rw [lU];rfl
  rw [q] at h2
  have n:(w.setCells g (k*129) (.int .i64 (C.ws[k].1:Int)::b))=w.setCells g (k*129+1) b:=by
   rw [World.setCells];congr 1;have l:w.cell? ⟨g,k*129,none⟩=some (.int .i64 (C.ws[k].1:Int)):=h.range k m 0 _ rfl;rcases h.row.2 with⟨s,_⟩|⟨u,r,t,o,_,d,_⟩;.cases s
   .cases o;refine dS d ?_;rw [aG w g (k*129) _ _ _ d] at l;exact l
  rw [n] at h2;simpa using h2
theorem jt{C:Ck}{i:Nat}(b:List Value)(h:yd C.ws i=some k):∃a:k<C.ws.length,C.put i b={C with ws:=C.ws.set k (C.ws[k].1,b)}:=by
 obtain⟨a,_,h2⟩:=xB (D:=⟨[],[],0,0⟩) h;have:C.ws[k].1=i:=by omega
 exact⟨a,by unfold Ck.put;rw [h,this]⟩
theorem jF{C:Ck}{i:Nat}(b:List Value)(h:yd C.ws i=none):C.put i b={C with ws:=C.ws++[(i,b)]}:=by unfold Ck.put;rw [h]
section
attribute [local go_sem ↓] Go.wp_at_zero Go.wp_at_succ cW cX js
attribute [local go_sem] dQ dR
theorem QR(w:World)(bc bd:Nat)(T:Nat->Prop)(C:Ck)(a:Option Addr)(cap:Nat)(h:qC w bc bd T C a cap)(i:Nat)(b:List Value)(K:zS b)(B:C.ws.length<1000)(x:yd C.ws i=none):
 Calls Tryz.prog 135 #[.pointer (some ⟨bc,0,none⟩),.int .i64 i,.agg b.toArray] w λe w'=>e=.returned (.tuple #[])/\(∃G,Chg w' bc bd G (C.put i b)/\∀k,G k->T k\/w.heap.size<=k)/\za T w w':=by
 obtain⟨m,s⟩:=K;have F:Hid _:=h;have o:Hid (za (λ_=>False) w (w.alloc (.cells b.toArray 154))):=za.alloc _ _ _;change Hid _ at x;clear h;obtain⟨n,q,u,v,t⟩:=eZ Tryz.infoCw;have l:Hid (Tryz.prog.info? 160=some n/\n.zero=some (.agg yq.toArray)/\n.size=129/\n.bytes=136):=⟨q,u,v,t⟩;clear q u v t;go_enter Tryz.func135,Tryz.ntmps135;go_wp2_with (go_at_call 172;refine(xe _ bc bd T C a cap (F.kept o nF) i).mono ?_;rintro e d ⟨rfl,j⟩;rw [x.out];unfold Gn;have c:Hid _:=(F.kept o nF).kept j nF;have L:Hid (d.heap[w.heap.size]? =some (.cells b.toArray 154 (0,0))):=(j.block w.heap.size (by simp) (λM=>M)).trans (ac w _);change Hid _ at j);have P:=c.c1;have N:=c.lt bc c.bcT;have R:(uK (.pointer (some ⟨w.heap.size,0,none⟩))).run Tryz.prog d.drew=.ok (.agg b.toArray) d.drew:=xI _ _ _ b (zQ (w:=d.drew) L) m;have y:Hid (((d.alloc (.cells (.int .i64 (i:Int)::b).toArray 160)).drew).ownsRow 0 160 129 (.slice a C.ws.length cap) C.ws.length (C.ws.map zM).flatten):=c.row.alloc _
 go_region_law ((refine step_append_lies _ rfl (.tmp 24) (.tmp 28) 156 rfl 0 160 n _ 129 136 Tryz.underlying156 l.1 l.2.1 l.2.2.1 l.2.2.2 (congrArg (· +1) zG.1) (by omega) (.slice a C.ws.length cap) C.ws.length _ (by rfl) y ⟨d.heap.size,0,none⟩ 1 1 (.int .i64 (i:Int)::b) (by rfl) (by simp [m]) (World.news_of_block (w:=(d.alloc (.cells (.int .i64 (i:Int)::b).toArray 160)).drew) (ac d _)) (aQ.2 ⟨rfl,s⟩) (by omega) (by unfold maxLen;omega) (by omega) (aj _) (d.heap.size+1) (by simp) ?_;intro g J H p f r I;have D:Hid _:=qC.pushed c B _ i b ⟨m,s⟩ g J p f r;have S:H.cell? ⟨bc,1,none⟩=some (.slice a C.ws.length cap):=(f.cell_far ⟨bc,1,none⟩ (by simp;omega) (λe=>c.ap e.symm)).trans (by simpa using c.kept (za.alloc (λ_=>False) d _) nF |>.c1);have O:H.frozen? ⟨bc,1,none⟩=false:=(f.frozen_far ⟨bc,1,none⟩ (by simp;omega) (λe=>c.ap e.symm)).trans (by simpa using c.kept (za.alloc (λ_=>False) d _) nF |>.fz 1);clear p f r))
 all_goals
  go_wp2;go_end0;have Q:w.heap.size+1<=d.heap.size:=by have:=j.size;simpa using this
  have z:=o.trans j iL;refine⟨rfl,⟨_,⟨_,_,by rw [jF b x.out];exact D.1⟩,λk A=>?_⟩,(z.mono fE).trans D.2.2 (λk A=>.inl A)⟩;rcases D.2.1 k A with E|E;.exact .inl E
  .right;omega
end
theorem Xt(w:World)(bc bd:Nat)(T:Nat->Prop)(C:Ck)(g cap:Nat)(h:qC w bc bd T C (some ⟨g,0,none⟩) cap)(i k:Nat)(b:List Value)(n:zS b)(p:yd C.ws i=some k):
 Calls Tryz.prog 135 #[.pointer (some ⟨bc,0,none⟩),.int .i64 i,.agg b.toArray] w λe w'=>e=.returned (.tuple #[])/\Chg w' bc bd T (C.put i b)/\za T w w':=by
 obtain⟨s,f⟩:=jt b p;have r:Hid _:=h;have l:Hid (za (λ_=>False) w (w.alloc (.cells b.toArray 154))):=za.alloc _ _ _;have t:=n.1;have H:=n.2;have o:T g:=(h.own g).2 (.inr rfl);have y:bc≠g:=λe=>h.ap (by rw [<-e];rfl);change Hid _ at f p n;clear h;have E:(k:Int)<(C.ws.length:Int):=by omega
 go_enter Tryz.func135,Tryz.ntmps135;go_wp2_with (go_at_call 172;refine(xe _ bc bd T C _ cap (r.kept l nF) i).mono ?_;rintro e d ⟨rfl,c⟩;rw [p.out];unfold Gn;have a:Hid _:=(r.kept l nF).kept c nF;have z:Hid (d.heap[w.heap.size]? =some (.cells b.toArray 154 (0,0))):=(c.block w.heap.size (by simp) (λA=>A)).trans (ac w _);change Hid _ at c);have G:=a.c1
 have B:d.there g (k*129+1) 128:=λj J=>by have m:=a.row;rw [show C.ws.length=(C.ws.map zM).length from by simp] at m;have:=dq m a.wlen k (by simpa using s) (j+1) (by omega);rw [lH,iG 1 j];exact this
 have F:=zQ z.out;have I:=r.lt g o;have x:w.heap.size≠g:=by omega
 have D:=yH;have u:(Tryz.prog.info? 154).map (·.size)=some b.length:=by rw [t];exact zY Tryz.infoPage
 go_region_held3 (λw'=>w'.cell? ⟨bc,1,none⟩=some (.slice (some ⟨g,0,none⟩) C.ws.length cap)/\w'.rangeAt w.heap.size 0 b/\w'.there g (k*129+1) 128)
  ((go_split_ands;simp only [World.rangeAt_drew,World.there_drew,World.cell?_drew] at *; refine⟨?_,?_,?_⟩<;>first|assumption|(rw [World.cell?_setCells_out _ _ _ _ _ (by intro v _;simp at v;omega)];assumption)|(refine World.rangeAt_setCells_apart (by assumption) _ _ _ (by omega))|(apply World.there_setCells;assumption)))
  (fail)
 go_wp2;refine bodyPost_ret (results_none rfl _ _ _) rfl ?_;have q:za (λ_=>False) w d.drew:=(l.trans c iL).trans (za.drew _ _) iL;have m:=(a.kept (za.drew (λ_=>False) d) nF).reset k s b n.out;exact⟨rfl,⟨_,_,by rw [f.out];exact m⟩,(q.mono fE).trans (za.setCells (S:=T) g o b (k*129+1) d.drew) iL⟩
theorem ju(w:World)(bc bd:Nat)(S T:Nat->Prop)(D:Dk)(C:Ck)(h:Cw w bc bd S T D C)(i:Nat)(b:List Value)(o:zS b)(n:C.ws.length<1000):
 Calls Tryz.prog 135 #[.pointer (some ⟨bc,0,none⟩),.int .i64 i,.agg b.toArray] w λe w'=>e=.returned (.tuple #[])/\(∃f,Cw w' bc bd S f D (C.put i b)/\∀k,f k->T k\/w.heap.size<=k)/\za T w w':=by
 obtain⟨a,cap,m⟩:=h.chg;have r:=h.disk.lt
 cases j:yd C.ws i with
 |none=>
  refine(QR w bc bd T C a cap m i b o n j).mono ?_;rintro e w' ⟨l,⟨f,h2,q⟩,c⟩
  exact⟨l,⟨f,⟨h.disk.kept c h.apart,h2,λk d s=>by
   rcases q k s with p|p;.exact h.apart k d p
   .have:=r k d;omega⟩,q⟩,c⟩
 |some k=>
  obtain⟨d,_⟩:=jt b j;obtain⟨g,rfl⟩:=m.rowAt (by omega);refine(Xt w bc bd T C g cap m i k b o j).mono ?_;rintro e w' ⟨l,h2,c⟩;exact⟨l,⟨T,⟨h.disk.kept c h.apart,h2,h.apart⟩,λk d=>.inl d⟩,c⟩
theorem dU(w:World)(b:Nat)(t:TypeId)(l:List UInt8)(h:yK w b t l)(k c cap:Nat)(j:k=4\/k=5)(f:c+zk k<=l.length)(a:zk k<=cap)(e:En)(d:e.Ok)(g:(l.drop c).take 8=List.replicate 8 0):
 Calls Tryz.prog 193 #[.int .u8 (k:Int),.slice (some ⟨b,c,none⟩) (zk k) cap,.agg #[.string e.pl.key,.int .i64 e.pl.num,.bool e.mark,.int .i64 (e.size:Int),.int .i64 (e.at_:Int)]] w λr w'=>r=.returned (.tuple #[])/\yK w' b t (qG l c (jL k e))/\za (λi=>i=b) w w':=by
 rcases j with rfl|rfl;.exact uJ w b t l h c cap f a e d g
 .exact fY w b t l h c cap f a e d g
theorem QS(k:Nat)(a:List En)(i:Nat)(b:i<a.length):(zc k (a.take i)).push (jL k a[i])=zc k (a.take (i+1)):=by
 unfold zc Pg.push;rw [ao b,eh];rfl
theorem Xu{p:Pg}(h:p.Ok)(e:(p.items.length+1)*zk p.kind<=124)(f:p.items.length+1<=124)(a:8<=zk p.kind):(((p.grown 1).bytes.drop (4+p.items.length*zk p.kind)).take 8)=List.replicate 8 0:=by
 have d:=h.grown 1 e f;have i:p.items.length<(p.grown 1).items.length:=by rw [Pg.grown_len];omega
 have c:=d.item p.items.length i;have h2:(p.grown 1).items[p.items.length]=List.replicate (zk p.kind) 0:=by simp [Pg.grown]
 have g:(p.grown 1).kind=p.kind:=rfl;rw [h2,g] at c;have b:=congrArg (List.take 8) c;rw [iu,a8 a,List.take_replicate,a8 a] at b;exact b
theorem qe.below{P:Nat->Prop}{b:List En}(h:qe w P a b):qe w (λj=>P j/\j<w.heap.size) a b:=
 ⟨h.at_.imp id (λ⟨g,f,e,h2,c,d⟩=>⟨g,f,e,⟨h2,c⟩,c,d⟩),h.few⟩
section
attribute [local go_sem ↓] js
theorem VO(w:World)(bc bd:Nat)(S T:Nat->Prop)(D:Dk)(C:Ck)(h:Cw w bc bd S T D C)(P:Nat->Prop)(a:Option Addr)(cap:Nat)(k:Nat)(J:k=4\/k=5)(c:List En)(aJ:qe w P a c)(ae:∀e∈c,e.Ok)(a8:c.length<=6)(U:Nat)(ap:C.ws.length<1000):
 Calls Tryz.prog 173 #[.agg #[.int .u8 (k:Int),.slice a c.length cap],.pointer (some ⟨bc,0,none⟩),.int .i64 U] w λr w'=>r=.returned (.tuple #[])/\(∃aH,Cw w' bc bd S aH D (C.put U (zl (zc k c)))/\∀j,aH j->T j\/w.heap.size<=j)/\za T w w':=by
 obtain⟨W,ah,bB⟩:∃W:List Value,W=zW/\∀w,(zeroValue 154).run Tryz.prog w=.ok (.agg W.toArray) w:=⟨zW,rfl,zX Tryz.infoPage⟩;have aA:Hid (zS W):=by rw [ah];exact zG
 clear ah;have aW:Hid _:=zY Tryz.infoPage;have ao:Hid _:=h;have L:k<=6:=by rcases J with rfl|rfl<;>omega
 have V:Hid _:=yc (Pg.new_ok k L);have aN:Hid (za (λ_=>False) w (w.alloc (.cells #[.int .u8 (k:Int),.slice a c.length cap] 209))):=za.alloc _ _ _;have al:8<=zk k/\zk k<=20:=by rcases J with rfl|rfl<;>decide
 change Hid _ at aJ;clear h;go_enter Tryz.func173,Tryz.ntmps173
 go_wp2_with (first
  |(go_at_call 131;refine(jD _ k L).mono ?_;rintro r f ⟨rfl,R⟩;have v:f.heap[w.heap.size]? =_:=(R.block w.heap.size (by simp) (λs=>s)).trans (ac w _);have bp:f.cell? ⟨w.heap.size,1,none⟩=some (.slice a c.length cap):=(cR v rfl);have aK:=(lT v);change Hid _ at R v)
  |(show wpList _ _ _ ({dst:=none,op:=.store _ (.tmp 6) (.tmp 11),type:=_,pos:=_,after:=_,guard:=_}::_) _ _;refine zi rfl 154 (.tmp 6) (.tmp 11) rfl _ _ (zl (Pg.new k)) (by simp) rfl rfl (by rw [V.1];exact aW) (by rw [aq,aA.1,V.1]) V.2 ?_))
 have av:Hid (qP (f.alloc (.cells (zl (Pg.new k)).toArray 154)) f.heap.size (zc k (c.take 0))):=⟨⟨ac f _⟩,Pg.new_ok k L⟩;have I:Hid (za (λ_=>False) w (f.alloc (.cells (zl (Pg.new k)).toArray 154))):=(aN.trans R iL).trans (za.alloc _ _ _) iL;have ar:Hid ((f.alloc (.cells (zl (Pg.new k)).toArray 154)).heap[w.heap.size]? =some (.cells #[.int .u8 (k:Int),.slice a c.length cap] 209 (0,0))):=((za.alloc (λ_=>False) f _).block w.heap.size aK (λs=>s)).trans v.out;have bh:(f.alloc (.cells (zl (Pg.new k)).toArray 154)).heap.size=f.heap.size+1:=by simp
 generalize (f.alloc (.cells (zl (Pg.new k)).toArray 154))=bm at*;go_loopw [15] (λt wr=>∃(i:Nat),i<=c.length/\t=.int .i64 i/\za (λj=>j=f.heap.size) bm wr/\qP wr f.heap.size (zc k (c.take i))) (λt _=>c.length-(intOf t).toNat)
 case atStart=>exact⟨0,aj _,rfl,za.refl _ _,av⟩
 case round=>
  obtain⟨i,bw,rfl,l,x⟩:=hrel;have d:(zc k (c.take i)).items.length=i:=by simp [zc];omega
  have A:=(l.block w.heap.size (by omega) (by omega)).trans ar.out;have aS:wr.cell? ⟨w.heap.size,0,none⟩=some (.int .u8 (k:Int)):=cR A rfl;have aB:=(lT A);have bq:=x.bs.lt;have Z:Hid _:=(aJ.below.kept I nF).kept l (λj z an=>by omega);change Hid _ at l x A;by_cases O:i<c.length
  .obtain⟨g,bC,rfl⟩:=Z.base (by omega);obtain⟨bs,bx,bA,bt,bu,bg,bj⟩:=Z.cells i O;have ag:Hid c[i].Ok:=ae _ (ai O);have aR:Hid _:=QS k c i O;generalize c[i]=e at*;have aM:(i:Int)<(c.length:Int):=by omega
   go_wp2;have Y:(wr.alloc (.cells (qr e).toArray 109))=(wr.alloc (.cells #[.string e.pl.key,.int .i64 e.pl.num,.bool e.mark,.int .i64 (e.size:Int),.int .i64 (e.at_:Int)] 109)):=rfl;have n:Hid ((wr.alloc (.cells (qr e).toArray 109)).heap[wr.heap.size]? =some (.cells (qr e).toArray 109 (0,0))):=ac wr _;have E:Hid (za (λ_=>False) wr (wr.alloc (.cells (qr e).toArray 109))):=za.alloc _ _ _;have ax:(wr.alloc (.cells (qr e).toArray 109)).heap.size=wr.heap.size+1:=by simp
   rw [Y] at n E ax;clear Y;generalize (wr.alloc (.cells #[.string e.pl.key,.int .i64 e.pl.num,.bool e.mark,.int .i64 (e.size:Int),.int .i64 (e.at_:Int)] 109))=o at*;have bf:o.cell? ⟨wr.heap.size,0,none⟩=some (.string e.pl.key):=cR n.out rfl;have bl:o.cell? ⟨wr.heap.size,1,none⟩=some (.int .i64 e.pl.num):=cR n.out rfl;have bi:o.cell? ⟨wr.heap.size,2,none⟩=some (.bool e.mark):=cR n.out rfl;have bo:o.cell? ⟨wr.heap.size,3,none⟩=some (.int .i64 (e.size:Int)):=cR n.out rfl;have br:o.cell? ⟨wr.heap.size,4,none⟩=some (.int .i64 (e.at_:Int)):=cR n.out rfl;have aw:=(E.cell (a:=⟨w.heap.size,0,none⟩) aB (λs=>s)).trans aS;have aQ:Hid _:=(x.kept E (λs=>s)).kept (za.drew (λ_=>False) o) (λs=>s)
   have u:(i+1)*zk k<=124:=by
    have aY:i+1<=6:=by omega
    have:=Nat.mul_le_mul aY al.2;omega
   have aE:Hid (vd f.heap.size (zc k (c.take i)).kind (zc k (c.take i)).items.length 1=.slice (some ⟨f.heap.size,4+i*zk k,none⟩) (zk k) (124-i*zk k)):=by show vd _ _ _ _=_;rw [d];unfold vd;rw [iU];rfl
   have Q:Hid _:=x.ok;have M:Hid _:=Xu (p:=zc k (c.take i)) Q (by rw [d];exact u) (by rw [d];omega) al.1;have aF:Hid _:=QF ag J;have F:Hid _:=Q.push_over (jL k e) aF (by rw [d];exact u);have aO:Hid (zc k (c.take (i+1))).Ok:=cO J (λbv aU=>ae bv (aP aU)) (by rw [aC];omega);have aX:(i+1)*zk k=i*zk k+zk k:=Nat.succ_mul ..;rw [aR.out] at F;rw [d] at M F;have N:(zc k (c.take i)).kind=k:=rfl;rw [N] at M F;have ay:Hid _:=(Q.grown 1 (by rw [d];exact u) (by rw [d];omega)).len;generalize bk:zc k (c.take i)=p at*
   go_region_held3 (λw'=>w'.cell? ⟨w.heap.size,0,none⟩=some (.int .u8 (k:Int))/\w'.cell? ⟨wr.heap.size,0,none⟩=some (.string e.pl.key)/\w'.cell? ⟨wr.heap.size,1,none⟩=some (.int .i64 e.pl.num)/\w'.cell? ⟨wr.heap.size,2,none⟩=some (.bool e.mark)/\w'.cell? ⟨wr.heap.size,3,none⟩=some (.int .i64 (e.size:Int))/\w'.cell? ⟨wr.heap.size,4,none⟩=some (.int .i64 (e.at_:Int))) (go_keep) (first
    |(go_at_call 133;refine(ve _ _ _ (by exact aQ) 1 (by rw [d,N];exact u) (by rw [d];omega) (by rw [N];omega)).mono ?_;rintro r H ⟨ad,X,B⟩;rw [aE.out] at ad;subst ad;have au:=(B.cell (a:=⟨w.heap.size,0,none⟩) (show w.heap.size<o.heap.size by omega) (by show ¬w.heap.size=f.heap.size;omega)).trans aw;have m:=(B.block wr.heap.size (show wr.heap.size<o.heap.size by omega) (by omega)).trans n.out;have a6:H.cell? ⟨wr.heap.size,0,none⟩=some (.string e.pl.key):=(cR m rfl);have a0:H.cell? ⟨wr.heap.size,1,none⟩=some (.int .i64 e.pl.num):=(cR m rfl);have bb:H.cell? ⟨wr.heap.size,2,none⟩=some (.bool e.mark):=(cR m rfl);have be:H.cell? ⟨wr.heap.size,3,none⟩=some (.int .i64 (e.size:Int)):=(cR m rfl);have a7:H.cell? ⟨wr.heap.size,4,none⟩=some (.int .i64 (e.at_:Int)):=(cR m rfl);have aD:=(lT m);change Hid _ at X B m)
    |(go_at_call 193;refine(dU _ _ _ _ (by exact X.bs) k (4+i*zk k) (124-i*zk k) J (by rw [ay.out];omega) (by omega) e ag (by exact M)).mono ?_;rintro r y ⟨rfl,K,G⟩;rw [F.out] at K;have a5:=(G.cell (a:=⟨w.heap.size,0,none⟩) (show w.heap.size<H.heap.size by omega) (by show ¬w.heap.size=f.heap.size;omega)).trans au;have q:=(G.block wr.heap.size aD (by omega)).trans m.out;have aV:y.cell? ⟨wr.heap.size,0,none⟩=some (.string e.pl.key):=(cR q rfl);have a3:y.cell? ⟨wr.heap.size,1,none⟩=some (.int .i64 e.pl.num):=(cR q rfl);have ba:y.cell? ⟨wr.heap.size,2,none⟩=some (.bool e.mark):=(cR q rfl);have a1:y.cell? ⟨wr.heap.size,3,none⟩=some (.int .i64 (e.size:Int)):=(cR q rfl);have aT:y.cell? ⟨wr.heap.size,4,none⟩=some (.int .i64 (e.at_:Int)):=(cR q rfl);change Hid _ at K G;clear q))
   have aG:Hid (za (λj=>j=f.heap.size) bm y):=((l.trans (E) fE).trans (za.trans (b:=o.drew) (za.drew _ o) B iL) iL).trans G iL;have aL:Hid (qP y f.heap.size (zc k (c.take (i+1)))):=⟨K,aO⟩;go_wp2;go_roundw;.exact⟨i+1,by omega,rfl,aG,aL⟩
   .show c.length-((i:Int)+1).toNat<c.length-(i:Int).toNat;omega
  .have az:i=c.length:=by omega
   subst az;have aM:¬(c.length:Int)<(c.length:Int):=by omega
   have aa:Hid (qP wr f.heap.size (zc k c)):=by have:=x.out;rw [eN] at this;exact this
   have ab:Hid _:=yc aa.ok;have bn:(uK (.pointer (some ⟨f.heap.size,0,none⟩))).run Tryz.prog wr=.ok (.agg (zl (zc k c)).toArray) wr:=xI _ _ _ _ (zQ aa.bs.at_) ab.1
   have aI:Hid (Cw wr bc bd S T D C):=by have a4:=ao.disk.lt;have aZ:=ao.chg.lt;exact(ao.kept0 I).kept l (λj z an=>by have:=a4 j z;omega) (λj z an=>by have:=aZ j z;omega)
   go_wp2_with (go_at_call 135;refine(ju _ bc bd S T D C aI U _ ab ap).mono ?_;rintro r bz ⟨rfl,⟨a2,af,am⟩,ak⟩;change Hid _ at af am ak);go_end0;refine⟨rfl,⟨a2,af,λj z=>(am j z).imp id (λh=>by omega)⟩,?_⟩;have a9:za T w wr:=(I.mono fE).trans l (λj z=>.inr (by omega));exact a9.trans ak iL
end
end prog
namespace prog
variable {m:List UInt8}{i:Nat}
def zR(m:List UInt8):Pg:=⟨3,0,m.map λb=>[b]⟩
theorem gL(m:List UInt8):(m.map λb=>[b]).flatten=m:=by
 induction m with
 |nil=>rfl
 |cons b m a=>simp [a]
theorem xR(h:m.length=124):(zR m).Ok where
 kind:=by simp [zR]
 link:=by simp [zR]
 wide:=λi a=>by obtain⟨b,_,rfl⟩:=au.1 a;rfl
 fits:=by simp [zR,zk,h]
 few:=by simp [zR,h]
theorem jG(h:m.length=124):(zR m).bytes=[3,124,0,0]++m:=by
 simp [Pg.bytes,zR,zk,h,gL,bytesOf]
def kJ:List UInt8:=List.replicate 124 0
theorem Km:kJ.length=124:=by simp [kJ]
theorem Kn:(Pg.new 3).grown 124=zR kJ:=by
 simp [Pg.grown,Pg.new,zR,kJ,zk]
def zT(m:List UInt8)(i:Nat):Bool:=(m.getD (i/8) 0).toNat.testBit (i%8)
def ue(m:List UInt8)(i:Nat):List UInt8:=m.set (i/8) (UInt8.ofNat ((m.getD (i/8) 0).toNat|||2^(i%8)))
def jN(m:List UInt8)(i:Nat):List UInt8:=m.set (i/8) (UInt8.ofNat ((m.getD (i/8) 0).toNat&&&(255^^^2^(i%8))))
theorem QT(m:List UInt8)(i:Nat):(ue m i).length=m.length:=by simp [ue]
theorem VP(m:List UInt8)(i:Nat):(jN m i).length=m.length:=by simp [jN]
theorem Xv(i:Nat):2^(i%8)<256:=by
 have h:i%8<=7:=by omega
 have:=lf (show 0<2 by omega) h;omega
theorem uL(r s:Nat):(2^r).testBit s=decide (r=s):=Nat.testBit_two_pow
theorem VQ(s:Nat)(h:s<8):(255:Nat).testBit s=true:=by
 have:(255:Nat)=2^8-1:=rfl;rw [this,Nat.testBit_two_pow_sub_one];simpa using h
theorem QU{v:Nat}(a:v<256)(b:i/8<m.length)(j:Nat):
 zT (m.set (i/8) (UInt8.ofNat v)) j=if j/8=i/8 then v.testBit (j%8) else zT m j:=by
 unfold zT;by_cases e:j/8=i/8
 .rw [aB e,e,aA,lA b,iT];simp [mF a]
 .rw [aw e,aA,iK (iw e),<-aA]
theorem Ko(a:i/8<m.length)(j:Nat):zT (ue m i) j=(zT m j||decide (j=i)):=by
 have b:(m.getD (i/8) 0).toNat|||2^(i%8)<256:=Nat.or_lt_two_pow (n:=8) (m.getD (i/8) 0).toNat_lt (Xv i);unfold ue;rw [QU b a];split
 next e=>
  rw [Nat.testBit_or,uL];unfold zT;rw [e];congr 1;simp;omega
 next e=>rw [decide_eq_false (by intro h;rw [h] at e;exact e rfl),Bool.or_false]
theorem Kp(a:i/8<m.length)(j:Nat):zT (jN m i) j=(zT m j&&decide (j≠i)):=by
 have b:(m.getD (i/8) 0).toNat&&&(255^^^2^(i%8))<256:=mr mJ (m.getD (i/8) 0).toNat_lt;unfold jN;rw [QU b a];split
 next e=>
  rw [mK,Nat.testBit_xor,uL,VQ _ (by omega)];unfold zT;rw [e];congr 1;by_cases h:j=i;.subst h;simp
  .have:i%8≠j%8:=by omega
   simp [h,this]
 next e=>rw [aJ (by intro h;rw [h] at e;exact e rfl),Bool.and_true]
theorem Xw(i:Nat):zT kJ i=false:=by
 unfold zT kJ;rw [aA,List.getElem?_replicate];split<;>simp
end prog
namespace prog
open Go.ChangeShapes Go.WideShapes Go.ChangeAt Go.RowKit disk ref
open keys (zh zd zx zq)
def gM(r:Nat):Int:=((2^r:Nat):Int)
theorem gN(w:World)(i:Nat)(b:i<=1000000):Calls Tryz.prog 171 #[.int .i64 ((i:Int)+21)] w λe w'=>e=.returned (.tuple #[.int .i64 (i/8:Nat),.int .u8 (gM (i%8))])/\∃n,w'=w.drewN n:=by
 go_enter Tryz.func171,Tryz.ntmps171;go_wp2
 go_region
 go_wp2;go_ret2;have a:=Xv i
 have e:((2:Int)^(i%8))%256=gM (i%8):=by
  unfold gM;have:((2:Int)^(i%8))=((2^(i%8):Nat):Int):=by simp
  rw [this];generalize 2^(i%8)=c at*;omega
 exact⟨by rw [<-e];simp,1,rfl⟩
theorem gO{w:World}{r:Nat}{t:TypeId}{b a:List Value}(h:w.heap[r]? =some (.cells b.toArray t (0,0)))(c:a.length=b.length):(w.setCells r 0 a).heap[r]? =some (.cells a.toArray t (0,0)):=by
 rw [z9 r t a 0 w _ h (by simp [c])];congr 3;rw [mn,aK,eo (by simp [c]),aM]
structure qF (b:List Value) (m:List UInt8):Prop where
 len:m.length=124
 is:b=zl (zR m)\/(b=zl (Pg.new 0)/\m=kJ)
theorem uM(w:World)(bc bd:Nat)(S T:Nat->Prop)(D:Dk)(C:Ck)(h:Cw w bc bd S T D C)(m:List UInt8)(G:qF (C.look D 2) m)(U:0<=D.reads)(V:D.reads<=4611686018427387904):
 Calls Tryz.prog 170 #[.pointer (some ⟨bc,0,none⟩)] w λe w'=>e=.returned (.agg (zl (zR m)).toArray)/\(∃n:Int,0<=n/\n<=1/\Cw w' bc bd S T {D with reads:=D.reads+n} C)/\za (λk=>k=bd) w w':=by
 obtain⟨f,Q,ah⟩:∃f:List Value,f=zW/\∀w,(zeroValue 154).run Tryz.prog w=.ok (.agg f.toArray) w:=⟨zW,rfl,zX Tryz.infoPage⟩;have i:Hid (zS f):=by rw [Q];exact zG
 clear Q;have l:Hid _:=zY Tryz.infoPage;have Z:Hid _:=h;have ag:=h.disk.lt bd h.disk.bdS;have ae:Hid _:=G;have b:Hid _:=yc (xR G.len);have z:Hid _:=h.disk.lt;have A:Hid _:=h.chg.lt;clear h;have u:Hid (za (λ_=>False) w (w.alloc (.cells f.toArray 154))):=za.alloc _ _ _;rcases G.is with I|⟨I,af⟩
 .have X:Hid _:=I;clear I G;go_enter Tryz.func170,Tryz.ntmps170
  go_wp2_with (first
   |(go_at_call 192;refine(j9 _ bc bd S T D C (Z.kept0 u) 2 (by constructor<;>omega) U V).mono ?_;rintro e a ⟨rfl,d,c⟩;rw [X.out];have F:Hid _:=d;have r:Hid _:=c;have O:Hid (a.heap[w.heap.size]? =some (.cells f.toArray 154 (0,0))):=(c.block w.heap.size (by simp) (by omega)).trans (ac w _);clear d c)
   |(show wpList _ _ _ ({dst:=none,op:=.store _ (.tmp 3) (.tmp 5),type:=_,pos:=_,after:=_,guard:=_}::_) _ _;refine zi rfl 154 (.tmp 3) (.tmp 5) rfl _ _ (zl (zR m)) (by simp) rfl rfl (by rw [b.1];exact l) (by rw [aq,i.1,b.1]) b.2 ?_;have H:Hid (qP (a.alloc (.cells (zl (zR m)).toArray 154)) a.heap.size (zR m)):=⟨⟨ac a _⟩,xR ae.len⟩)
   |(go_at_call 144;refine(kZ _ _ _ H).mono ?_;rintro e P ⟨rfl,rfl⟩;have y:(zR m).kind=3:=rfl;rw [y])
   |(show wpList _ _ _ ({dst:=some 11,op:=.load _ _,type:=_,pos:=_,after:=_,guard:=_}::_) _ _;refine wpList_load_mid rfl 154 (.tmp 3) rfl _ _ rfl (zl (zR m)) _ (zQ H.bs.at_) yH rfl (by rw [b.1];exact l) ?_;have q:Hid ((a.alloc (.cells (zl (zR m)).toArray 154)).heap[w.heap.size]? =some (.cells f.toArray 154 (0,0))):=((za.alloc (λ_=>False) a _).block w.heap.size (lT O) (λW=>W)).trans O)
   |(show wpList _ _ _ ({dst:=none,op:=.store _ (.tmp 2) (.tmp 11),type:=_,pos:=_,after:=_,guard:=_}::_) _ _;refine wpList_store_mid rfl 154 (.tmp 2) (.tmp 11) rfl _ _ _ rfl rfl (by have:=yb q.out;rw [i.1] at this;simpa [b.1] using this) (by rw [aq,b.1];exact l) (all_oneCell_toArray b.2) ?_))
  have M:za (λk=>k=bd) w ((a.alloc (.cells (zl (zR m)).toArray 154)).setCells w.heap.size 0 (zl (zR m))):=
   (((u.mono fE).trans r iL).trans (za.alloc _ _ _) iL).trans (za.setCells (S:=λk=>k=w.heap.size) w.heap.size rfl _ 0 _) (λj o=>.inr (by rw [o];exact aF _))
  have K:=gO q (show (zl (zR m)).length=f.length by rw [b.1,i.1]);refine bodyPost_ret (v:=.agg (zl (zR m)).toArray) (results_cell_row Tryz.results170 _ _ w.heap.size 154 _ (0,0) _ rfl K yH rfl (by rw [aq,b.1];exact l)) rfl ⟨rfl,?_,M⟩;obtain⟨n,L,E,d⟩:=F.out;exact⟨n,L,E,(d.kept0 (za.alloc _ _ _)).kept (za.setCells (S:=λk=>k=w.heap.size) w.heap.size rfl _ 0 _) (λk g e=>by have:=z.out k g;omega) (λk g e=>by have:=A.out k g;omega)⟩
 .have X:Hid _:=I;subst af;clear I G;have J:Hid (zS (zl (Pg.new 0))):=yc (Pg.new_ok 0 (by omega));have s:Hid (zS (zl (Pg.new 3))):=yc (Pg.new_ok 3 (by omega));go_enter Tryz.func170,Tryz.ntmps170
  go_wp2_with (first
   |(go_at_call 192;refine(j9 _ bc bd S T D C (Z.kept0 u) 2 (by constructor<;>omega) U V).mono ?_;rintro e a ⟨rfl,d,c⟩;rw [X.out];have F:Hid _:=d;have r:Hid _:=c;have O:Hid (a.heap[w.heap.size]? =some (.cells f.toArray 154 (0,0))):=(c.block w.heap.size (by simp) (by omega)).trans (ac w _);clear d c)
   |(show wpList _ _ _ ({dst:=none,op:=.store _ (.tmp 3) (.tmp 5),type:=_,pos:=_,after:=_,guard:=_}::_) _ _;refine zi rfl 154 (.tmp 3) (.tmp 5) rfl _ _ (zl (Pg.new 0)) (by simp) rfl rfl (by rw [J.1];exact l) (by rw [aq,i.1,J.1]) J.2 ?_;have H:Hid (qP (a.alloc (.cells (zl (Pg.new 0)).toArray 154)) a.heap.size (Pg.new 0)):=⟨⟨ac a _⟩,Pg.new_ok 0 (by omega)⟩)
   |(go_at_call 144;refine(kZ _ _ _ H).mono ?_;rintro e P ⟨rfl,rfl⟩;have y:(Pg.new 0).kind=0:=rfl;rw [y])
   |(go_at_call 131;refine(jD _ 3 (by omega)).mono ?_;rintro e P ⟨rfl,p⟩;have R:Hid (P.heap[a.heap.size]? =some (.cells (zl (Pg.new 0)).toArray 154 (0,0))):=(H.kept p (λW=>W)).bs.at_;change Hid _ at p)
   |(show wpList _ _ _ ({dst:=none,op:=.store _ (.tmp 3) (.tmp 8),type:=_,pos:=_,after:=_,guard:=_}::_) _ _;refine wpList_store_mid rfl 154 (.tmp 3) (.tmp 8) rfl _ _ _ rfl rfl (by have:=yb R.out;rw [J.1] at this;simpa [s.1] using this) (by rw [aq,s.1];exact l) (all_oneCell_toArray s.2) ?_;have aa:Hid (qP (P.setCells a.heap.size 0 (zl (Pg.new 3))) a.heap.size (Pg.new 3)):=⟨⟨gO R (by rw [s.1,J.1])⟩,Pg.new_ok 3 (by omega)⟩)
   |(go_at_call 129;refine(jZ _ 3 (by omega)).mono ?_;rintro e x ⟨rfl,rfl⟩;have ab:room 3=124:=rfl;rw [ab])
   |(go_at_call 133;refine(ve _ _ _ aa 124 (by decide) (by decide) (by decide)).mono ?_;rintro e x ⟨rfl,N,t⟩;rw [Kn] at N;have B:Hid _:=t;change Hid _ at N;clear t)
   |(show wpList _ _ _ ({dst:=some 11,op:=.load _ _,type:=_,pos:=_,after:=_,guard:=_}::_) _ _;refine wpList_load_mid rfl 154 (.tmp 3) rfl _ _ rfl (zl (zR kJ)) _ (zQ N.bs.at_) yH rfl (by rw [b.1];exact l) ?_;have q:Hid (x.heap[w.heap.size]? =some (.cells f.toArray 154 (0,0))):=by {have ad:w.heap.size+1<=a.heap.size:=(by have:=r.size;simpa using this);exact(((((((za.alloc (λ_=>False) a _).trans p iL)).mono fE).trans (za.setCells (S:=λk=>k=a.heap.size) a.heap.size rfl _ 0 _) (λj o=>.inl (by omega))).trans B (λj o=>.inl (by omega)):za (λk=>a.heap.size<=k) a x).block w.heap.size (by omega) (by omega)).trans O })
   |(show wpList _ _ _ ({dst:=none,op:=.store _ (.tmp 2) (.tmp 11),type:=_,pos:=_,after:=_,guard:=_}::_) _ _;refine wpList_store_mid rfl 154 (.tmp 2) (.tmp 11) rfl _ _ _ rfl rfl (by have:=yb q.out;rw [i.1] at this;simpa [b.1] using this) (by rw [aq,b.1];exact l) (all_oneCell_toArray b.2) ?_))
  have ad:w.heap.size+1<=a.heap.size:=by have:=r.size;simpa using this
  have c:za (λk=>k=bd) w a:=(u.mono fE).trans r iL;have t:za (λk=>k=bd) w x:=((c.trans ((za.alloc (λ_=>False) a _).trans p iL) fE).trans (za.setCells (S:=λk=>k=a.heap.size) a.heap.size rfl _ 0 _) (λj o=>.inr (by omega))).trans B (λj o=>.inr (by omega));have Y:za (λk=>a.heap.size<=k) a x:=(((((za.alloc (λ_=>False) a _).trans p iL)).mono fE).trans (za.setCells (S:=λk=>k=a.heap.size) a.heap.size rfl _ 0 _) (λj o=>.inl (by omega))).trans B (λj o=>.inl (by omega));have M:za (λk=>k=bd) w (x.setCells w.heap.size 0 (zl (zR kJ))):=t.trans (za.setCells (S:=λk=>k=w.heap.size) w.heap.size rfl _ 0 _) (λj o=>.inr (by rw [o];exact aF _));have K:=gO q (show (zl (zR kJ)).length=f.length by rw [b.1,i.1]);refine bodyPost_ret (v:=.agg (zl (zR kJ)).toArray) (results_cell_row Tryz.results170 _ _ w.heap.size 154 _ (0,0) _ rfl K yH rfl (by rw [aq,b.1];exact l)) rfl ⟨rfl,?_,M⟩;obtain⟨n,L,E,d⟩:=F.out;exact⟨n,L,E,(d.kept Y (λk g e=>by have:=z.out k g;omega) (λk g e=>by have:=A.out k g;omega)).kept (za.setCells (S:=λk=>k=w.heap.size) w.heap.size rfl _ 0 _) (λk g e=>by have:=z.out k g;omega) (λk g e=>by have:=A.out k g;omega)⟩
end prog
end Go.Proofs.YtcoengihaobddaaGreatDoor

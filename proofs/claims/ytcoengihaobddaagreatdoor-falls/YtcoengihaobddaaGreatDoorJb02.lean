/- Part 2 of 36 of a proof: Disk3, Disk4, Ref1, Disk3b, Disk5, Disk6, Disk7, Disk8 -/
import Derived.Test.YtcoengihaobddaaGreatDoorJb01
import Derived.Deep.WholeRow
import Derived.Deep.CutRange
import Derived.Deep.QuietTactic
import Derived.BigQuiet
import Derived.Deep.RegionLaw
import Derived.Deep.DrawnRows
import Derived.Deep.RegionHeld3
set_option maxHeartbeats 8000000
set_option linter.unusedVariables false
set_option linter.unusedSimpArgs false
set_option maxRecDepth 8000
namespace Go.Proofs.YtcoengihaobddaaGreatDoor
namespace disk
open Go.ChangeShapes Go.WideShapes Go.ChangeAt Go.RowKit
variable {t:TypeId}{b bd bc pc:Nat}{w wr:World}{S:Nat->Prop}{D:Dk}{ba pa:Option Addr}{Zb cur cs:List Value}
def yq:List Value:=.int .i64 0::zW
theorem Tryz.infoWrite:(Tryz.prog.info? 133).map (λi=>(i.zero,i.size,i.bytes))=some (some (.agg yq.toArray),129,136):=by kernel_rfl
theorem zX{v:Value}{n:Nat}(h:(Tryz.prog.info? t).map (λi=>(i.zero,i.size,i.bytes))=some (some v,n,b)):∀w,(zeroValue t).run Tryz.prog w=.ok v w:=by
 obtain⟨i,c,a,_,_⟩:=eZ h;intro w;simp [zeroValue,typeInfo,c,a]
theorem zY{v:Value}{n:Nat}(h:(Tryz.prog.info? t).map (λi=>(i.zero,i.size,i.bytes))=some (some v,n,b)):(Tryz.prog.info? t).map (·.size)=some n:=by
 obtain⟨i,c,_,a,_⟩:=eZ h;simp [c,a]
def xt(i:Nat)(ps:List (Nat×List Value))(b:List Value):List Value:=ps.foldl (λb p=>if p.1=i then p.2 else b) b
def Dk.look(D:Dk)(a:Int):List Value:=if 0<=a/\a<D.bs.length then xt a.toNat D.ps (D.bs.getD a.toNat []) else zW
theorem zn.row(h:zn w bd S D ba pa bc pc)(c:0<D.bs.length):∃g,ba=some ⟨g,0,none⟩:=by
 rcases h.rows.2 with⟨_,d⟩|⟨g,b,cur,a,_⟩;.omega
 .cases a;exact⟨g,rfl⟩
theorem zn.prow(h:zn w bd S D ba pa bc pc)(c:0<D.ps.length):∃g,pa=some ⟨g,0,none⟩:=by
 rcases h.pend.2 with⟨_,d⟩|⟨g,b,cur,a,_⟩;.omega
 .cases a;exact⟨g,rfl⟩
theorem zi{P:Program}{d:Array Oper}{rest:List Oper}{op:Oper}{a:Act}{f:World}{Q:Exit->Act->World->Prop}(e:op.guard=none)(b:TypeId)(q r:Operand)(o:op.op=.store b q r)
 (n:Nat) (c:Array Value) (cs:List Value) (k:n=f.heap.size) (i:a.eval q=.pointer (some ⟨n,0,none⟩)) (g:a.eval r=.agg cs.toArray)
 (m:(P.info? b).map (·.size)=some cs.length) (p:c.size=cs.length) (j:∀v∈cs,v.oneCell'=true)
 (h:wpList P d Q rest (a.put op.dst undef) (f.alloc (.cells cs.toArray b))):wpList P d Q (op::rest) a (f.alloc (.cells c b)):=by
 subst k;refine md e λ_ l=>?_;unfold Oper.wp execOp;simp only [o,i,g,run_storeAt_new (P:=P) f b c cs.toArray (by simpa using m) (by simpa using p) (all_oneCell_toArray j),ie,eD,iI];exact l _ _ h
structure jS (w wr:World) (bd:Nat) (S:Nat->Prop) (D:Dk) (ba pa:Option Addr) (bc pc:Nat) (Zb cur:List Value):Prop where
 disk:zn wr bd S D ba pa bc pc
 kept:za (λk=>k=bd) w wr
 resb:wr.heap[w.heap.size]? =some (.cells Zb.toArray 131 (0,0))
 curb:wr.heap[w.heap.size+1]? =some (.cells cur.toArray 131 (0,0))
theorem jS.lt(h:jS w wr bd S D ba pa bc pc Zb cur):w.heap.size+1<wr.heap.size:=
 (lT h.curb)
theorem jS.alloc(h:jS w wr bd S D ba pa bc pc Zb cur)(a:Obj):jS w (wr.alloc a) bd S D ba pa bc pc Zb cur:=by
 have b:=h.lt;refine⟨h.disk.kept (za.alloc (λ_=>False) wr a) nF,h.kept.trans (za.alloc _ wr a) iL,?_,?_⟩;.rw [ma wr a _ (by omega)];exact h.resb
 .rw [ma wr a _ b];exact h.curb
theorem jS.set(h:jS w wr bd S D ba pa bc pc Zb cur)(b:∀k,S k->k<w.heap.size)
 (cs:List Value) (c:cur.length=cs.length):jS w (wr.setCells (w.heap.size+1) 0 cs) bd S D ba pa bc pc Zb cs:=by
 refine⟨h.disk.kept (za.setCells (S:=λk=>k=w.heap.size+1) _ rfl cs 0 wr) (λk a e=>by have:=b k a;omega),h.kept.trans (za.setCells (S:=λk=>k=w.heap.size+1) _ rfl cs 0 wr) (λk a=>.inr (by omega)),?_,?_⟩;.rw [y6 _ _ (by omega)];exact h.resb
 .rw [z9 _ _ cs 0 wr _ h.curb (by simp;omega)];congr 2;apply lF;simp [c]
theorem jS.done(h:jS w wr bd S D ba pa bc pc Zb cur)(b:∀k,S k->k<w.heap.size)
 (c:Zb.length=cur.length):zn (wr.setCells w.heap.size 0 cur) bd S D ba pa bc pc/\za (λk=>k=bd) w (wr.setCells w.heap.size 0 cur)/\
  (wr.setCells w.heap.size 0 cur).heap[w.heap.size]? =some (.cells cur.toArray 131 (0,0)):=by
 refine⟨h.disk.kept (za.setCells (S:=λk=>k=w.heap.size) _ rfl cur 0 wr) (λk a e=>by have:=b k a;omega),h.kept.trans (za.setCells (S:=λk=>k=w.heap.size) _ rfl cur 0 wr) (λk a=>.inr (by omega)),?_⟩;rw [z9 _ _ cur 0 wr _ h.resb (by simp;omega)];congr 2;apply lF;simp [c]
theorem zQ(c:w.heap[b]? =some (.cells cs.toArray t (0,0))):w.rangeAt b 0 cs:=λj v a=>by
 rw [aG w b (0+j) _ t (0,0) c];simpa using a
theorem yb(a:w.heap[b]? =some (.cells cs.toArray t (0,0))):w.there b 0 cs.length:=λj c=>
 ⟨(zQ a).isSome j c,aa w b _ _ t a⟩
theorem qX{c:Value}(a:w.heap[b]? =some (.cells (c::cs).toArray t (0,0))):w.rangeAt b 1 cs:=λj v d=>by
 rw [aG w b (1+j) _ t (0,0) a,iG];simpa using d
theorem zn.range{g:Nat}(h:zn w bd S D (some ⟨g,0,none⟩) pa bc pc)(i:Nat)(c:i<D.bs.length):w.rangeAt g (i*128) D.bs[i]:=
 ym h.rows (λb a=>(h.ok.bs b a).1) i c
theorem Y0(h:D.Ok):∀b∈D.ps.map zM,b.length=129:=λb a=>by
 obtain⟨p,c,rfl⟩:=au.1 a;have:=(h.ps p c).2.1;simp [zM,this]
theorem zn.prange{g:Nat}(h:zn w bd S D ba (some ⟨g,0,none⟩) bc pc)(i:Nat)(b:i<D.ps.length):w.rangeAt g (i*129) (.int .i64 (D.ps[i].1:Int)::D.ps[i].2):=by
 have a:=h.pend;rw [show D.ps.length=(D.ps.map zM).length from by simp] at a;have:=ym a (Y0 h.ok) i (by simpa using b);simpa [zM] using this
theorem Qj(i:Nat)(ps:List (Nat×List Value))(b:List Value)(k:Nat)(a:k<ps.length):xt i (ps.take (k+1)) b=if ps[k].1=i then ps[k].2 else xt i (ps.take k) b:=by
 unfold xt;rw [ao a,lW];rfl
theorem cF{i:Nat}{b:List Value}(a:zS b):∀{ps:List (Nat×List Value)},(∀p∈ps,zS p.2)->zS (xt i ps b):=by
 intro ps
 induction ps generalizing b with
 |nil=>intro _;exact a
 |cons p ps c=>
  intro h;unfold xt;rw [lM];refine c ?_ (λq d=>h q (am _ d));split;.exact h p (al ..)
  .exact a
theorem zn.len(h:zn w bd S D ba pa bc pc):D.ps.length<=9223372036854775807:=by
 rcases h.pend.2 with⟨_,b⟩|⟨g,a,cur,c,_,_,d,h2,_⟩;.omega
 .unfold maxLen at h2;omega
theorem UF(w:World)(bd:Nat)(S:Nat->Prop)(D:Dk)(ba pa:Option Addr)(bc pc:Nat)(h:zn w bd S D ba pa bc pc)(i:Nat)(G:i<D.bs.length)(ah:0<=D.reads)(ak:D.reads<=4611686018427387904):
 Calls Tryz.prog 81 #[.pointer (some ⟨bd,0,none⟩),.int .i64 i] w λe w'=>
  e=.returned (.agg (D.look i).toArray)/\zn w' bd S {D with reads:=D.reads+1} ba pa bc pc/\za (λk=>k=bd) w w':=by
 obtain⟨Zb,u,am⟩:∃Zb:List Value,Zb=zW/\∀w,(zeroValue 131).run Tryz.prog w=.ok (.agg Zb.toArray) w:=⟨zW,rfl,zX Tryz.infoBlock⟩;obtain⟨s,A,Z⟩:∃s:List Value,s=yq/\∀w,(zeroValue 133).run Tryz.prog w=.ok (.agg s.toArray) w:=⟨yq,rfl,zX Tryz.infoWrite⟩;have r:Hid (Zb.length=128):=by rw [u];exact zG.1
 have z:Hid (s.length=129):=by rw [A];exact congrArg (· +1) zG.1
 clear u A;obtain⟨g,rfl⟩:=h.row (by omega);have af:=h.c0;have ab:=h.c1;have ag:=h.c3;have X:=h.fz 3;have Y:=h.lt bd h.bdS;have F:Hid (zn w bd S D (some ⟨g,0,none⟩) pa bc pc):=h;have aa:=h.len;have f:Hid (zS D.bs[i]):=h.ok.bs _ (ai G);have x:Hid _:=h.lt;have T:Hid _:=h.set_reads (D.reads+1)
 have J:Hid (zn ((w.setCell ⟨bd,3,none⟩ (.int .i64 (D.reads+1))).alloc (.cells Zb.toArray 131)) bd S {D with reads:=D.reads+1} (some ⟨g,0,none⟩) pa bc pc):=
  T.kept (za.alloc (λ_=>False) _ _) nF
 have O:Hid (jS w (((w.setCell ⟨bd,3,none⟩ (.int .i64 (D.reads+1))).alloc (.cells Zb.toArray 131)).alloc (.cells D.bs[i].toArray 131)) bd S {D with reads:=D.reads+1} (some ⟨g,0,none⟩) pa bc pc Zb D.bs[i]):=by
  refine⟨J.kept (za.alloc (λ_=>False) _ _) nF,((za.setCell (S:=λk=>k=bd) w _ _ rfl).trans (za.alloc _ _ _) iL).trans (za.alloc _ _ _) iL,?_,?_⟩
  .have:=heap_alloc2_old (w.setCell ⟨bd,3,none⟩ (.int .i64 (D.reads+1))) (.cells Zb.toArray 131) (.cells D.bs[i].toArray 131);simpa using this
  .have:=eF (w.setCell ⟨bd,3,none⟩ (.int .i64 (D.reads+1))) (.cells Zb.toArray 131) (.cells D.bs[i].toArray 131);simpa using this
 have m:Hid _:=zY Tryz.infoBlock;have o:Hid _:=zY Tryz.infoWrite;clear h;have H:(i:Int)<(D.bs.length:Int):=by omega
 go_enter Tryz.func81,Tryz.ntmps81
 go_wp2_with (first
  |(refine wpList_load_mid rfl 131 (.tmp 32) rfl _ _ rfl D.bs[i] _ (J.range i G) Tryz.underlying131 rfl (by rw [f.1];exact m.out) ?_)
  |(refine zi rfl 131 (.tmp 5) (.tmp 33) rfl _ _ D.bs[i] (by simp) rfl rfl (by rw [f.1];exact m.out) (by rw [f.1];simpa using r.out) f.2 ?_))
 go_loopw [39] (λt wr=>∃k:Nat,k<=D.ps.length/\t=.int .i64 k/\jS w wr bd S {D with reads:=D.reads+1} (some ⟨g,0,none⟩) pa bc pc Zb (xt i (D.ps.take k) D.bs[i])) (λt _=>D.ps.length-(intOf t).toNat)
 case atStart=>exact⟨0,aj _,rfl,O.out⟩
 case round=>
  obtain⟨k,al,rfl,b⟩:=hrel;change Hid _ at b;have d:Hid (zS (xt i (D.ps.take k) D.bs[i])):=cF f.out (λp P=>(F.ok.ps p (aP P)).2);have ad:=b.lt;by_cases l:k<D.ps.length
  .obtain⟨V,rfl⟩:=F.prow (by omega);have K:Hid _:=b.disk.prange k l;have a:Hid (zS D.ps[k].2):=(F.ok.ps _ (ai l)).2;have B:Hid _:=Qj i D.ps D.bs[i] k l;generalize R:D.ps[k]=q at*;obtain⟨c,n⟩:=q;have y:Hid (Value.oneCell' (.int .i64 (c:Int))=true):=rfl;have C:Hid (jS w (wr.alloc (.cells (.int .i64 (c:Int)::n).toArray 133)) bd S {D with reads:=D.reads+1} (some ⟨g,0,none⟩) (some ⟨V,0,none⟩) bc pc Zb (xt i (D.ps.take k) D.bs[i])):=b.alloc _;clear R;have N:(k:Int)<(D.ps.length:Int):=by omega
   by_cases j:c=i
   .have L:((c:Int)==(i:Int))=true:=by simp [j]
    have E:Hid _:=j;clear j
    go_wp2_with (first
     |(refine wpList_load_mid rfl 133 (.tmp 41) rfl _ _ rfl (.int .i64 (c:Int)::n) _ K.out Tryz.underlying133 rfl (by rw [ae,a.1];exact o.out) ?_)
     |(refine zi rfl 133 (.tmp 7) (.tmp 42) rfl _ _ (.int .i64 (c:Int)::n) rfl rfl rfl (by rw [ae,a.1];exact o.out) (by rw [ae,a.1];simpa using z.out) (aQ.2 ⟨y.out,a.2⟩) ?_)
     |(refine wpList_load_mid rfl 131 (.tmp 47) rfl _ _ rfl n _ (qX (ac wr _)) Tryz.underlying131 rfl (by rw [a.1];exact m.out) ?_)
     |(refine wpList_store_mid rfl 131 (.tmp 5) (.tmp 48) rfl _ _ _ rfl rfl (by have:=yb C.curb;rw [d.1] at this;simpa [a.1] using this) (by rw [aq,a.1];exact m.out) (all_oneCell_toArray a.2) ?_))
    go_roundw
    case rel=>exact⟨k+1,by omega,by go_num,by rw [B.out,aB E.out];exact C.set x.out n (by rw [d.1,a.1])⟩
    case measure=>simp [intOf];omega
   .have L:((c:Int)==(i:Int))=false:=by simp;omega
    have E:Hid _:=j;clear j
    go_wp2_with (first
     |(refine wpList_load_mid rfl 133 (.tmp 41) rfl _ _ rfl (.int .i64 (c:Int)::n) _ K.out Tryz.underlying133 rfl (by rw [ae,a.1];exact o.out) ?_)
     |(refine zi rfl 133 (.tmp 7) (.tmp 42) rfl _ _ (.int .i64 (c:Int)::n) rfl rfl rfl (by rw [ae,a.1];exact o.out) (by rw [ae,a.1];simpa using z.out) (aQ.2 ⟨y.out,a.2⟩) ?_))
    go_roundw
    case rel=>exact⟨k+1,by omega,by go_num,by rw [B.out,aw E.out];exact C.out⟩
    case measure=>simp [intOf];omega
  .have W:¬(k:Int)<(D.ps.length:Int):=by omega
   go_wp2_with (first
    |(refine wpList_load_mid rfl 131 (.tmp 5) rfl _ _ rfl (xt i (D.ps.take k) D.bs[i]) _ (zQ b.curb) Tryz.underlying131 rfl (by rw [d.1];exact m.out) ?_)
    |(refine wpList_store_mid rfl 131 (.tmp 4) (.tmp 50) rfl _ _ _ rfl rfl (by have:=yb b.resb;rw [r.out] at this;simpa [d.1] using this) (by rw [aq,d.1];exact m.out) (all_oneCell_toArray d.2) ?_))
   obtain⟨M,U,Q⟩:=b.done x.out (by rw [r.out,d.1])
   have I:xt i (D.ps.take k) D.bs[i]=D.look i:=by unfold Dk.look;rw [aB ⟨by omega,H⟩,an (by omega),mu,aA,aH G,iT]
   refine bodyPost_ret (v:=.agg (xt i (D.ps.take k) D.bs[i]).toArray) (results_cell_row Tryz.results81 _ _ w.heap.size 131 _ (0,0) _ rfl Q Tryz.underlying131 rfl (by rw [aq,d.1];exact m.out)) rfl ⟨by rw [I],M,U⟩
end disk
namespace disk
open Go.RowKit
theorem Qk(b:Nat):∀(vs:List Value) (k:Nat) (a:Array Value),b+k+vs.length<=a.size->
 ((vs.zipIdx k).foldl (λcs (p:Value×Nat)=>cs.setIfInBounds (b+p.2) p.1) a).toList=a.toList.take (b+k)++vs++a.toList.drop (b+k+vs.length)
 |[],k,a,_=>by simp
 |v::r,k,a,h=>by simp only [ae] at h;rw [List.zipIdx_cons,lM,Qk b r (k+1) _ (by simp;omega)];simp only [Array.toList_setIfInBounds,ae];rw [hE,aB (by simp;omega)];obtain⟨k1,k2⟩:=Ja (a.toList.take (b+k)) (a.toList.drop (b+k+1)) v (b+k) r.length (by simp;omega);rw [show b+(k+1)=b+k+1 from by omega,k1,k2,eA,show b+k+1+r.length=b+k+(r.length+1) from by omega];simp
theorem gr(b:Nat)(vs:List Value)(a:Array Value)(h:b+vs.length<=a.size):
 vs.zipIdx.foldl (λcs (p:Value×Nat)=>cs.setIfInBounds (b+p.2) p.1) a=(a.toList.take b++vs++a.toList.drop (b+vs.length)).toArray:=by
 apply lF;rw [Qk b vs 0 a (by simpa using h)];simp
theorem vt(vs:List Value)(a:Array Value)(h:vs.length=a.size):
 vs.zipIdx.foldl (λcs (p:Value×Nat)=>cs.setIfInBounds p.2 p.1) a=vs.toArray:=by
 have:=gr 0 vs a (by omega);simp only [eT] at this;rw [this,h];simp
theorem xu{t:TypeId}{n:Nat}(h:(Tryz.prog.info? t).map (·.size)=some n)(w:World):(sizeOf t).run Tryz.prog w=.ok n w:=by
 cases a:Tryz.prog.info? t with
 |none=>simp [a] at h
 |some i=>simp [a] at h;simp [sizeOf,typeInfo,a,h]
theorem Ql:(Tryz.prog.info? 3).map (·.size)=some 1:=by kernel_rfl
theorem fQ(w:World)(n:Int)(b:List Value)(h:b.length=128):
 (Instr.build 133 #[(0,.int .i64 n),(1,.agg b.toArray)]).run Tryz.prog w=.ok (.agg (.int .i64 n::b).toArray) w:=by
 have g:=zX Tryz.infoWrite w;have a:yq.length=129:=congrArg (· +1) zG.1;have f:=xu Ql;have h2:=xu (zY Tryz.infoBlock);generalize k:yq=c at*;have d:¬c=[]:=λe=>by rw [e] at a;simp at a
 have i:=gr 1 b (c.set 0 (.int .i64 n)).toArray (by simp [h,a]);have j:¬(¬b.length=128\/c.length<1+b.length):=by omega
 simp only [Instr.build,ie,g,eD,ii Tryz.underlying133 w];simp [f,h2,Value.cells,Instr.fill];rw [aw d,aw j,i];simp only [iI];congr 2;apply lF
 cases c with
 |nil=>exact absurd rfl d
 |cons z l=>simp [h];simp at a;omega
theorem fR(w:World)(cs:List Value)(h:cs.length=129):
 (Instr.buildSlice 116 1 #[(0,.agg cs.toArray)]).run Tryz.prog w=.ok (.slice (some ⟨w.heap.size,0,none⟩) 1 1) (w.alloc (.cells cs.toArray 133)):=by
 have c:=zX Tryz.infoWrite w;have h2:=xu (zY Tryz.infoWrite);have b:=congrArg (· +1) zG.1;generalize d:yq=e at*;have a:¬(¬cs.length=129\/129<cs.length):=by omega
 simp only [Instr.buildSlice,ie,eD,ii Tryz.underlying116 w]
 first
  |(simp [h2,Value.cells,Instr.fill]
    rw [aw a,vt cs _ (by simp [h])];simp [newRow]
    done)
  |(simp [h2,c,Value.cells,Instr.fill,b]
    rw [aw a,vt cs _ (by simp [h])]
    simp [newRow])
def K3(parts:Array (Nat×Value)):Sem Value:=Instr.build 133 parts
theorem JQ(parts:Array (Nat×Value)):Instr.build 133 parts=K3 parts:=rfl
theorem Y1(w:World)(n:Int)(b:List Value)(h:b.length=128):(K3 #[(0,.int .i64 n),(1,.agg b.toArray)]).run Tryz.prog w=.ok (.agg (.int .i64 n::b).toArray) w:=fQ w n b h
def K4(len:Nat)(parts:Array (Nat×Value)):Sem Value:=Instr.buildSlice 116 len parts
theorem JR(a:Nat)(parts:Array (Nat×Value)):Instr.buildSlice 116 a parts=K4 a parts:=rfl
theorem Y2(w:World)(c:Value)(cs:List Value)(h:cs.length=128):(K4 1 #[(0,.agg (c::cs).toArray)]).run Tryz.prog w=.ok (.slice (some ⟨w.heap.size,0,none⟩) 1 1) (w.alloc (.cells (c::cs).toArray 133)):=
 fR w (c::cs) (by simp [h])
def K5(v:Value):Sem Value:=Instr.loadAt 131 v
theorem K6(v:Value):Instr.loadAt 131 v=K5 v:=rfl
theorem JS(w:World)(b c:Nat)(cs:List Value)(a:w.rangeAt b c cs)(h:cs.length=128):(K5 (.pointer (some ⟨b,c,none⟩))).run Tryz.prog w=.ok (.agg cs.toArray) w:=
 run_loadAt_mid w b c 131 cs _ a Tryz.underlying131 rfl (by rw [h];exact zY Tryz.infoBlock)
end disk
namespace ref
open Go.ChangeShapes Go.WideShapes Go.ChangeAt Go.RowKit disk
open keys (zh zd zx zq)
theorem qN{a b:ByteArray}:a.toList=b.toList↔a=b:=⟨λh=>vq (by rw [<-eC,<-eC,h]),λh=>by rw [h]⟩
def uu(vs:List zB)(k:ByteArray)(n:Int):Int:=((vs.findIdx? λv=>decide (v.key=k)&&decide (v.num=n)).map λi=>(i:Int)).getD (-1)
theorem K7{vs:List zB}{k:ByteArray}{n:Int}{i:Nat}(f:i<vs.length)(d:vs[i].key=k)(e:vs[i].num=n)(a:∀j (b:j<vs.length),j<i->¬(vs[j].key=k/\vs[j].num=n)):uu vs k n=(i:Int):=by
 have:vs.findIdx? (λv=>decide (v.key=k)&&decide (v.num=n))=some i:=eQ.2 ⟨f,by simp [d,e],λj b=>by have:=a j (by omega) b;simp;exact λc h2=>this ⟨c,h2⟩⟩;simp [uu,this]
theorem JT{vs:List zB}{k:ByteArray}{n:Int}(a:∀j (b:j<vs.length),¬(vs[j].key=k/\vs[j].num=n)):uu vs k n= -1:=by
 have:vs.findIdx? (λv=>decide (v.key=k)&&decide (v.num=n))=none:=im.2 λe c=>by obtain⟨j,b,rfl⟩:=ed c;have:=a j b;simp;exact λd h2=>this ⟨d,h2⟩
 simp [uu,this]
theorem dw(vs:List zB)(k:ByteArray)(n:Int):(uu vs k n= -1/\yi vs k n=none)\/∃(i:Nat) (h:i<vs.length),uu vs k n=(i:Int)/\yi vs k n=some vs[i]:=by
 cases h:vs.findIdx? (λv=>decide (v.key=k)&&decide (v.num=n)) with
 |none=>
  left;refine⟨by simp [uu,h],lz.2 λe b=>by rw [im.1 h e b];simp⟩
 |some i=>
  right;obtain⟨a,c,h2⟩:=eQ.1 h;refine⟨i,a,by simp [uu,h],?_⟩;exact List.find?_eq_some_iff_getElem.2 ⟨c,i,a,rfl,λj d=>by have:=h2 j d;rw [Bool.not_eq_true] at this;rw [this];rfl⟩
theorem xe(w:World)(F v:Nat->Prop)(b:Nat)(vs:List zB)(m:Int)(h:zJ w F v b vs m)(p:vs.length<=9223372036854775807)(c:ByteArray)(n:Int):
 Calls Tryz.prog 153 #[.pointer (some ⟨b,0,none⟩),.string c,.int .i64 n] w λe w'=>e=.returned (.int .i64 (uu vs c n))/\w'=w:=by
 obtain⟨a,r,cs,h⟩:=h;have t:=h.c0;have o:Hid _:=h;clear h;go_enter Tryz.func153,Tryz.ntmps153;go_wp2;go_loop [7] (λi=>∃k:Nat,k<=vs.length/\i=.int .i64 k/\∀j (f:j<vs.length),j<k->¬(vs[j].key=c/\vs[j].num=n)) (λi=>vs.length-(intOf i).toNat)
 case atStart=>exact⟨0,aj _,rfl,λ_ _ h=>by omega⟩
 case round=>
  obtain⟨k,y,rfl,d⟩:=hrel;change Hid _ at d;by_cases l:k<vs.length
  .obtain⟨g,rfl⟩:=o.rowAt (by omega);obtain⟨x,u,_⟩:=o.cells k l
   have next:¬(vs[k].key=c/\vs[k].num=n)->∀j (f:j<vs.length),j<k+1->¬(vs[j].key=c/\vs[j].num=n):=λq j f s=>by
    by_cases e:j=k;.subst e;exact q
    .exact d j f (by omega)
   change Hid _ at next
   go_wp2
   .go_ret;exact⟨zh (K7 l (qN.1 ‹_›) (zq ‹_›) d).symm,rfl⟩
   all_goals
    go_round
    case rel=>exact⟨k+1,by omega,by go_num,next (λh=>by first|exact absurd (qN.2 h.1) ‹_› |exact absurd h.2 (zx ‹_›))⟩
    case measure=>simp [intOf];omega
  .go_wp2;go_ret;exact⟨zh (JT λj f=>d j f (by omega)).symm,rfl⟩
def Qm(vs:List zB)(key:ByteArray)(k:Nat)(t:Value):Prop:=
 (t=.int .i64 (-1)/\qd (vs.take k) key=none)\/∃(m:Nat) (h:m<vs.length),m<k/\t=.int .i64 (m:Int)/\qd (vs.take k) key=some vs[m]
theorem Qn(vs:List zB)(a:ByteArray)(k:Nat)(h:k<vs.length):qd (vs.take (k+1)) a=vQ a (qd (vs.take k) a) vs[k]:=by
 unfold qd;rw [ao h,lW];rfl
theorem xj(w:World)(F J:Nat->Prop)(b:Nat)(vs:List zB)(v:Int)(h:zJ w F J b vs v)(A:vs.length<=9223372036854775807)(d:ByteArray):
 Calls Tryz.prog 154 #[.pointer (some ⟨b,0,none⟩),.string d] w λe w'=>(∃i,e=.returned i/\Qm vs d vs.length i)/\∃n,w'=w.drewN n:=by
 obtain⟨a,B,cs,h⟩:=h;have s:Hid _:=h;clear h;go_enter Tryz.func154,Tryz.ntmps154;go_wp2;go_loopw [5,6] (λt i wr=>∃k:Nat,k<=vs.length/\i=.int .i64 k/\Qm vs d k t/\∃n,wr=w.drewN n) (λ_ i _=>vs.length-(intOf i).toNat)
 case atStart=>exact⟨0,aj _,rfl,.inl ⟨rfl,rfl⟩,0,rfl⟩
 case round=>
  obtain⟨k,L,rfl,f,M,rfl⟩:=hrel;change Hid _ at f;have D:=s.c0;by_cases j:k<vs.length
  .have q:=Qn vs d k j;obtain⟨g,rfl⟩:=s.rowAt (by omega);obtain⟨K,H,_⟩:=s.cells k j;change Hid _ at q;rcases f.out with⟨rfl,l⟩|⟨m,u,C,rfl,o⟩
   .have p:Hid _:=l;clear l;by_cases c:vs[k].key.toList=d.toList
    .have x:(decide ((-1:Int)<0))=true:=rfl;go_wp2;go_quiet (fail);go_wp2;go_roundw
     case rel=>exact⟨k+1,by omega,by go_num,.inr ⟨k,j,by omega,rfl,by rw [q.out,p.out];exact aB (qN.1 c)⟩,_,rfl⟩
     case measure=>simp [intOf];omega
    .have x:(vs[k].key.toList==d.toList)=false:=by simpa using c
     have y:=decide_eq_false c;go_wp2;go_quiet (fail);go_wp2;go_roundw
     case rel=>exact⟨k+1,by omega,by go_num,.inl ⟨rfl,by rw [q.out,p.out];exact aw (λh=>c (qN.2 h))⟩,_,rfl⟩
     case measure=>simp [intOf];omega
   .have p:Hid _:=o;clear o;obtain⟨_,I,_⟩:=s.cells m u;have G:decide ((m:Int)<0)=false:=decide_eq_false (by omega);have E:(m:Int)<(vs.length:Int):=by omega
    by_cases c:vs[k].key.toList=d.toList
    .by_cases r:vs[m].num<vs[k].num
     .have z:=aJ r;go_wp2;go_quiet (fail);go_wp2;go_roundw
      case rel=>exact⟨k+1,by omega,by go_num,.inr ⟨k,j,by omega,rfl,by rw [q.out,p.out];exact aB ⟨qN.1 c,r⟩⟩,_,rfl⟩
      case measure=>simp [intOf];omega
     .have z:=decide_eq_false r;go_wp2;go_quiet (fail);go_wp2;go_roundw
      case rel=>exact⟨k+1,by omega,by go_num,.inr ⟨m,u,by omega,rfl,by rw [q.out,p.out];exact aw (λh=>by have:=h.2;omega)⟩,_,rfl⟩
      case measure=>simp [intOf];omega
    .have x:(vs[k].key.toList==d.toList)=false:=by simpa using c
     have y:=decide_eq_false c;go_wp2;go_quiet (fail);go_wp2;go_roundw
     case rel=>exact⟨k+1,by omega,by go_num,.inr ⟨m,u,by omega,rfl,by rw [q.out,p.out];exact aw (λh=>c (qN.2 h.1))⟩,_,rfl⟩
     case measure=>simp [intOf];omega
  .have e:k=vs.length:=by omega
   go_wp2;go_ret;refine⟨⟨_,rfl,?_⟩,_,rfl⟩;rw [<-e];exact f.out
end ref
namespace disk
open Go.ChangeShapes Go.WideShapes Go.ChangeAt Go.RowKit
theorem K8(w:World)(bd:Nat)(S:Nat->Prop)(D:Dk)(ba pa:Option Addr)(bc pc:Nat)(h:zn w bd S D ba pa bc pc)(a:Int)(m:zD a)(f:a<0\/D.bs.length<=a)(s:0<=D.reads)(r:D.reads<=4611686018427387904):
 Calls Tryz.prog 81 #[.pointer (some ⟨bd,0,none⟩),.int .i64 a] w λe w'=>
  e=.returned (.agg (D.look a).toArray)/\zn w' bd S {D with reads:=D.reads+1} ba pa bc pc/\za (λk=>k=bd) w w':=by
 obtain⟨Zb,c,x⟩:∃Zb:List Value,Zb=zW/\∀w,(zeroValue 131).run Tryz.prog w=.ok (.agg Zb.toArray) w:=⟨zW,rfl,zX Tryz.infoBlock⟩
 have g:Hid (D.look a=Zb):=by show D.look a=Zb;unfold Dk.look;rw [aw (by omega),c]
 have b:Hid (zS Zb):=by rw [c];exact zG
 clear c;have t:=h.c0;have n:=h.c3;have o:=h.fz 3;have p:=h.lt bd h.bdS;have d:Hid _:=zY Tryz.infoBlock;obtain⟨u,q⟩:=m;have j:Hid _:=h.set_reads (D.reads+1)
 have l:Hid (zn ((w.setCell ⟨bd,3,none⟩ (.int .i64 (D.reads+1))).alloc (.cells Zb.toArray 131)) bd S {D with reads:=D.reads+1} ba pa bc pc):=
  j.kept (za.alloc (λ_=>False) _ _) nF
 have i:Hid (za (λk=>k=bd) w ((w.setCell ⟨bd,3,none⟩ (.int .i64 (D.reads+1))).alloc (.cells Zb.toArray 131))):=
  (za.setCell (S:=λk=>k=bd) w _ _ rfl).trans (za.alloc _ _ _) iL
 clear h j;rcases f with f|f
 .go_enter Tryz.func81,Tryz.ntmps81;go_wp2_with (refine zi rfl 131 (.tmp 4) (.tmp 26) rfl _ _ Zb (by simp) rfl rfl (by rw [b.1];exact d) (by simp) b.2 ?_);refine bodyPost_ret (v:=.agg Zb.toArray) (results_cell_row Tryz.results81 _ _ w.heap.size 131 _ (0,0) _ rfl (by have:=ac (w.setCell ⟨bd,3,none⟩ (.int .i64 (D.reads+1))) (.cells Zb.toArray 131);simpa using this) Tryz.underlying131 rfl (by rw [aq,b.1];exact d)) rfl ⟨by rw [g.out],l,i⟩
 .go_enter Tryz.func81,Tryz.ntmps81;go_wp2_with (refine zi rfl 131 (.tmp 4) (.tmp 26) rfl _ _ Zb (by simp) rfl rfl (by rw [b.1];exact d) (by simp) b.2 ?_);refine bodyPost_ret (v:=.agg Zb.toArray) (results_cell_row Tryz.results81 _ _ w.heap.size 131 _ (0,0) _ rfl (by have:=ac (w.setCell ⟨bd,3,none⟩ (.int .i64 (D.reads+1))) (.cells Zb.toArray 131);simpa using this) Tryz.underlying131 rfl (by rw [aq,b.1];exact d)) rfl ⟨by rw [g.out],l,i⟩
theorem jk(w:World)(bd:Nat)(S:Nat->Prop)(D:Dk)(h:zg w bd S D)(a:Int)(j:zD a)(c:0<=D.reads)(b:D.reads<=4611686018427387904):
 Calls Tryz.prog 81 #[.pointer (some ⟨bd,0,none⟩),.int .i64 a] w λe w'=>
  e=.returned (.agg (D.look a).toArray)/\zg w' bd S {D with reads:=D.reads+1}/\za (λk=>k=bd) w w':=by
 obtain⟨ba,pa,bc,pc,h⟩:=h;by_cases g:a<0\/D.bs.length<=a;.exact(K8 w bd S D ba pa bc pc h a j g c b).mono λe w' ⟨d,h2,f⟩=>⟨d,⟨ba,pa,bc,pc,h2⟩,f⟩
 .obtain⟨i,rfl⟩:∃i:Nat,a=i:=⟨a.toNat,by omega⟩;exact(UF w bd S D ba pa bc pc h i (by omega) c b).mono λe w' ⟨d,h2,f⟩=>⟨d,⟨ba,pa,bc,pc,h2⟩,f⟩
end disk
namespace disk
open Go.ChangeShapes Go.WideShapes Go.ChangeAt Go.RowKit
attribute [local go_sem ↓] Go.wp_at_zero Go.wp_at_succ JQ JR K6
attribute [local go_sem] Y1 Y2
theorem zn.pushed{w c:World}{bd:Nat}{S:Nat->Prop}{D:Dk}{ba pa:Option Addr}{bc pc:Nat}(h:zn w bd S D ba pa bc pc)(x:Obj)(i:Nat)(y:i<D.bs.length)(b:List Value)(v:zS b)(g d:Nat)
 (r:c.ownsRow 0 133 129 (.slice (some ⟨g,0,none⟩) (D.ps.length+1) d) (D.ps.length+1) ((D.ps.map zM).flatten++.int .i64 (i:Int)::b))
 (o:(w.alloc x).drew.grownBy c (Value.slice pa D.ps.length pc).ownBlock) (n:(Value.slice pa D.ps.length pc).ownBlock=some g\/g=w.heap.size+1):
 zn (c.setCell ⟨bd,1,none⟩ (.slice (some ⟨g,0,none⟩) (D.ps.length+1) d)) bd (λk=>k=bd\/(Value.slice ba D.bs.length bc).ownBlock=some k\/k=g) {D with ps:=D.ps++[(i,b)]} ba (some ⟨g,0,none⟩) bc d/\
  (∀k,(k=bd\/(Value.slice ba D.bs.length bc).ownBlock=some k\/k=g)->S k\/w.heap.size<=k)/\za S w (c.setCell ⟨bd,1,none⟩ (.slice (some ⟨g,0,none⟩) (D.ps.length+1) d)):=by
 have t:=h.lt bd h.bdS
 have s:g≠bd:=by
  rcases n with e|e;.exact λf=>h.ap2 (by rw [e,f])
  .omega
 have u:za (λk=>(Value.slice pa D.ps.length pc).ownBlock=some k) (w.alloc x).drew c:=za.grown o (λk a=>a);have a:za (λk=>(Value.slice pa D.ps.length pc).ownBlock=some k) w c:=((za.alloc _ w x).trans (za.drew _ _) iL).trans u iL;have j:=za.setCell (S:=λk=>k=bd) c ⟨bd,1,none⟩ (.slice (some ⟨g,0,none⟩) (D.ps.length+1) d) rfl;have q:(D.ps++[(i,b)]).length=D.ps.length+1:=by simp
 have m:=a.owns h.rows (λk a e=>h.ap3 k a e);refine⟨⟨⟨h.ok.bs,?_,h.ok.few⟩,?_,?_,?_,?_,h.ap1,?_,?_⟩,?_,?_⟩
 .intro p l;rcases ah.1 l with l|l;.exact h.ok.ps p l
  .rw [az.1 l];exact⟨y,v⟩
 .simp only [q];have e:c.heap[bd]? =_:=(a.block bd t (λe=>h.ap2 e)).trans h.head;rw [heap_setCell_same c bd 1 _ _ _ e];rfl
 .exact j.owns m (λk a e=>h.ap1 (by rw [a,e]))
 .simp only [q];have:=j.owns r (λk a e=>by simp [Value.ownBlock] at a;omega);simpa [zM] using this
 .intro k;simp only [q];simp [Value.ownBlock,my]
 .simp [Value.ownBlock];exact s
 .intro k a;simp [Value.ownBlock];intro e;rcases n with f|f;.exact h.ap3 k a (by rw [f,e])
  .have:=(h.rows.lt k a).2;omega
 .intro k a;rcases a with rfl|a|rfl;.exact .inl h.bdS
  .exact .inl ((h.own k).2 (.inr (.inl a)))
  .rcases n with f|f;.exact .inl ((h.own k).2 (.inr (.inr f)))
   .right;omega
 .refine(a.mono (λk a=>(h.own k).2 (.inr (.inr a)))).trans j (λk a=>.inl (by rw [a];exact h.bdS))
theorem K9(w:World)(bd:Nat)(S:Nat->Prop)(D:Dk)(ba pa:Option Addr)(bc pc:Nat)(h:zn w bd S D ba pa bc pc)(i:Nat)(K:i<D.bs.length)(b:List Value)(I:zS b)
 (z:zD D.fuse) (E:(D.fuse==0)=false) (P:D.ps.length<=68719476736):
 Calls Tryz.prog 146 #[.pointer (some ⟨bd,0,none⟩),.int .i64 i,.agg b.toArray] w λe w'=>
  e=.returned (.bool true)/\(∃S',zg w' bd S' {D with ps:=D.ps++[(i,b)],fuse:=qv D.fuse}/\∀k,S' k->S k\/w.heap.size<=k)/\za S w w':=by
 obtain⟨l,r⟩:=I;have R:=h.c0;have M:(i:Int)<(D.bs.length:Int):=by omega
 have L:=h.lt bd h.bdS;have H:Hid (zn (w.alloc (.cells b.toArray 131)) bd S D ba pa bc pc):=h.kept (za.alloc (λ_=>False) _ _) nF;clear h;go_enter Tryz.func146,Tryz.ntmps146;go_wp2_with (go_at_call 65;refine(uq _ bd S D ba pa bc pc H z).mono ?_;rintro e c ⟨rfl,a,f⟩;change Hid _ at a f);have Q:=a.c1;have N:=a.fz 1;have J:=a.lt bd a.bdS
 have C:Hid (c.heap[w.heap.size]? =some (.cells b.toArray 131 (0,0))):=by show c.heap[w.heap.size]? =_;rw [f.block w.heap.size (by simp) (by omega)];exact ac w _
 have T:(K5 (.pointer (some ⟨w.heap.size,0,none⟩))).run Tryz.prog c.drew=.ok (.agg b.toArray) c.drew:=JS _ _ _ b (zQ (w:=c.drew) C) l;obtain⟨m,p,t,u,s⟩:=eZ Tryz.infoWrite;have j:Hid (Tryz.prog.info? 133=some m/\m.zero=some (.agg yq.toArray)/\m.size=129/\m.bytes=136):=⟨p,t,u,s⟩;clear p t u s;have v:Hid (((c.alloc (.cells (.int .i64 (i:Int)::b).toArray 133)).drew).ownsRow 0 133 129 (.slice pa D.ps.length pc) D.ps.length (D.ps.map zM).flatten):=a.pend.alloc _
 go_region_law ((refine step_append_lies _ rfl (.tmp 27) (.tmp 31) 116 rfl 0 133 m _ 129 136 Tryz.underlying116 j.1 j.2.1 j.2.2.1 j.2.2.2 (congrArg (· +1) zG.1) (by omega) (.slice pa D.ps.length pc) D.ps.length _ (by rfl) v ⟨c.heap.size,0,none⟩ 1 1 (.int .i64 (i:Int)::b) (by rfl) (by simp [l]) (World.news_of_block (w:=(c.alloc (.cells (.int .i64 (i:Int)::b).toArray 133)).drew) (ac c _)) (aQ.2 ⟨rfl,r⟩) (by omega) (by unfold maxLen;omega) (by omega) (aj _) (c.heap.size+1) (by simp) ?_;intro g y B o d q G;have x:Hid _:=zn.pushed a _ i K b ⟨l,r⟩ g y o d q;have U:B.cell? ⟨bd,1,none⟩=some (.slice pa D.ps.length pc):=(d.cell_far ⟨bd,1,none⟩ (by simp;omega) (λe=>a.ap2 e.symm)).trans (by simpa using a.kept (za.alloc (λ_=>False) c _) nF |>.c1);have O:B.frozen? ⟨bd,1,none⟩=false:=(d.frozen_far ⟨bd,1,none⟩ (by simp;omega) (λe=>a.ap2 e.symm)).trans (by simpa using a.kept (za.alloc (λ_=>False) c _) nF |>.fz 1);clear o d q))
 all_goals
  go_wp2;go_ret;refine⟨rfl,⟨_,⟨_,_,_,_,x.1⟩,λk n=>?_⟩,?_⟩
  .have F:=f.size;simp at F;rcases x.2.1 k n with A|A;.exact .inl A
   .right;omega
  .exact(((za.alloc (λk=>k=bd) w _).trans f iL).mono (λk n=>by rw [n];exact a.bdS)).trans x.2.2 (λk n=>.inl n)
theorem Y3(w:World)(bd:Nat)(S:Nat->Prop)(D:Dk)(ba pa:Option Addr)(bc pc:Nat)(h:zn w bd S D ba pa bc pc)(i:Nat)(s:i<D.bs.length)(b:List Value)
 (g:zD D.fuse) (c:(D.fuse==0)=true):
 Calls Tryz.prog 146 #[.pointer (some ⟨bd,0,none⟩),.int .i64 i,.agg b.toArray] w λe w'=>
  e=.returned (.bool false)/\zg w' bd S D/\za S w w':=by
 have r:=h.c0;have q:(i:Int)<(D.bs.length:Int):=by omega
 have p:=h.lt bd h.bdS;have o:Hid (zn (w.alloc (.cells b.toArray 131)) bd S D ba pa bc pc):=h.kept (za.alloc (λ_=>False) _ _) nF;have j:D.fuse=0:=by simpa using c
 have l:Hid (D.fuse=0):=j;clear j;clear h;go_enter Tryz.func146,Tryz.ntmps146;go_wp2_with (go_at_call 65;refine(uq _ bd S D ba pa bc pc o g).mono ?_;rintro e t ⟨rfl,a,d⟩;change Hid _ at a d);go_ret;refine⟨rfl,⟨ba,pa,bc,pc,?_⟩,((za.alloc (λk=>k=bd) w _).trans d iL).mono (λk m=>by rw [m];exact a.bdS)⟩;have f:=a.out;rw [l.out] at f
 have n:({D with fuse:=qv 0}:Dk)=D:=by have:=l.out;cases D;simp only at this;subst this;rfl
 rw [n] at f;exact f
theorem JU(w:World)(bd:Nat)(S:Nat->Prop)(D:Dk)(ba pa:Option Addr)(bc pc:Nat)(h:zn w bd S D ba pa bc pc)(a:Int)(d:zD a)(c:a<0\/D.bs.length<=a)(b:List Value):
 Calls Tryz.prog 146 #[.pointer (some ⟨bd,0,none⟩),.int .i64 a,.agg b.toArray] w λe w'=>
  e=.returned (.bool false)/\zg w' bd S D/\za S w w':=by
 have k:=h.c0;have g:=h.lt bd h.bdS;have f:Hid (zn (w.alloc (.cells b.toArray 131)) bd S D ba pa bc pc):=h.kept (za.alloc (λ_=>False) _ _) nF;obtain⟨j,i⟩:=d;clear h;rcases c with c|c
 all_goals
  go_enter Tryz.func146,Tryz.ntmps146;go_wp2;go_ret;exact⟨rfl,⟨_,_,_,_,f⟩,za.alloc _ _ _⟩
def Dk.write(D:Dk)(a:Int)(b:List Value):Dk:=if 0<=a/\a<D.bs.length/\D.fuse≠0 then {D with ps:=D.ps++[(a.toNat,b)],fuse:=qv D.fuse} else D
def Dk.writes(D:Dk)(a:Int):Bool:=decide (0<=a/\a<D.bs.length/\D.fuse≠0)
theorem yT(w:World)(bd:Nat)(S:Nat->Prop)(D:Dk)(h:zg w bd S D)(a:Int)(p:zD a)(b:List Value)(n:zS b)(d:zD D.fuse)(m:D.ps.length<=68719476736):
 Calls Tryz.prog 146 #[.pointer (some ⟨bd,0,none⟩),.int .i64 a,.agg b.toArray] w λe w'=>
  e=.returned (.bool (D.writes a))/\(∃S',zg w' bd S' (D.write a b)/\∀k,S' k->S k\/w.heap.size<=k)/\za S w w':=by
 obtain⟨ba,pa,bc,pc,h⟩:=h;by_cases o:a<0\/D.bs.length<=a
 .have c:¬(0<=a/\a<D.bs.length/\D.fuse≠0):=by omega
  rw [show D.writes a=false from decide_eq_false c,show D.write a b=D from aw c];exact(JU w bd S D ba pa bc pc h a p o b).mono λe w' ⟨f,h2,j⟩=>⟨f,⟨S,h2,λk g=>.inl g⟩,j⟩
 .obtain⟨i,rfl⟩:∃i:Nat,a=i:=⟨a.toNat,by omega⟩;by_cases l:D.fuse=0
  .have c:¬(0<=(i:Int)/\(i:Int)<D.bs.length/\D.fuse≠0):=by omega
   rw [show D.writes i=false from decide_eq_false c,show D.write i b=D from aw c];exact(Y3 w bd S D ba pa bc pc h i (by omega) b d (by simpa using l)).mono λe w' ⟨f,h2,j⟩=>⟨f,⟨S,h2,λk g=>.inl g⟩,j⟩
  .have c:0<=(i:Int)/\(i:Int)<D.bs.length/\D.fuse≠0:=by omega
   rw [show D.writes i=true from aJ c,show D.write i b={D with ps:=D.ps++[(i,b)],fuse:=qv D.fuse} from by unfold Dk.write;rw [aB c];simp];exact K9 w bd S D ba pa bc pc h i (by omega) b n d (by simpa using l) m
end disk
namespace disk
open Go.RowKit
variable {w wr:World}{bd g bc pc:Nat}{S:Nat->Prop}{D:Dk}{pa ba:Option Addr}
def zm(bs:List (List Value))(ps:List (Nat×List Value)):List (List Value):=ps.foldl (λbs p=>bs.set p.1 p.2) bs
theorem zC(ps:List (Nat×List Value)):∀bs,(zm bs ps).length=bs.length:=by
 induction ps with
 |nil=>intro bs;rfl
 |cons p ps a=>intro bs;unfold zm;rw [lM];exact(a _).trans (by simp)
theorem Qo(bs:List (List Value))(ps:List (Nat×List Value))(k:Nat)(a:k<ps.length):zm bs (ps.take (k+1))=(zm bs (ps.take k)).set ps[k].1 ps[k].2:=by
 unfold zm;rw [ao a,lW];rfl
theorem zn.setb(h:zn w bd S D (some ⟨g,0,none⟩) pa bc pc)(i:Nat)(n:i<D.bs.length)(b:List Value)(d:zS b):
 zn (w.setCells g (i*128) b) bd S {D with bs:=D.bs.set i b} (some ⟨g,0,none⟩) pa bc pc:=by
 have c:(D.bs.set i b).length=D.bs.length:=by simp
 have l:g≠bd:=λe=>h.ap1 (by rw [e];rfl);have f:=za.setCells (S:=λk=>k=g) g rfl b (i*128) w;refine⟨⟨?_,?_,by simpa using h.ok.few⟩,?_,?_,?_,?_,?_,?_,?_⟩
 .intro o a;rcases il a with a|rfl;.exact h.ok.bs o a
  .exact d
 .intro p m;simpa using h.ok.ps p m
 .simp only [c];rw [f.block bd (h.lt bd h.bdS) (λe=>l e.symm)];exact h.head
 .simp only [c];exact dr h.rows (λo a=>(h.ok.bs o a).1) i n b d.1
 .exact f.owns h.pend (λk j e=>h.ap3 k (by rw [e];rfl) j)
 .simp only [c];exact h.own
 .simp only [c];exact h.ap1
 .exact h.ap2
 .simp only [c];exact h.ap3
theorem zn.bthere(h:zn w bd S D (some ⟨g,0,none⟩) pa bc pc)(i:Nat)(c:i<D.bs.length):w.there g (i*128) 128:=
 dq h.rows (λb a=>(h.ok.bs b a).1) i c
theorem zn.nopend(h:zn w bd S D ba pa bc pc):
 zn (w.setCell ⟨bd,1,none⟩ (.slice none 0 0)) bd (λk=>k=bd\/(Value.slice ba D.bs.length bc).ownBlock=some k) {D with ps:=[]} ba none bc 0:=by
 have c:=za.setCell (S:=λk=>k=bd) w ⟨bd,1,none⟩ (.slice none 0 0) rfl;refine⟨⟨h.ok.bs,λp b=>(by cases b),h.ok.few⟩,?_,c.owns h.rows (λk a e=>h.ap1 (by rw [a,e])),aV _ _ _ _,?_,h.ap1,by simp [Value.ownBlock],λk _=>by simp [Value.ownBlock]⟩;.rw [heap_setCell_same w bd 1 _ _ _ h.head];rfl
 .intro k;simp [Value.ownBlock]
structure jl (w wr:World) (bd:Nat) (S:Nat->Prop) (D:Dk) (ba pa:Option Addr) (bc pc:Nat):Prop where
 disk:zn wr bd S D ba pa bc pc
 kept:za S w wr
theorem jl.alloc(h:jl w wr bd S D ba pa bc pc)(a:Obj):jl w (wr.alloc a) bd S D ba pa bc pc:=
 ⟨h.disk.kept (za.alloc (λ_=>False) wr a) nF,h.kept.trans (za.alloc S wr a) iL⟩
theorem jl.drew(h:jl w wr bd S D ba pa bc pc):jl w wr.drew bd S D ba pa bc pc:=
 ⟨h.disk.kept (za.drew (λ_=>False) wr) nF,h.kept.trans (za.drew S wr) iL⟩
theorem jl.setb(h:jl w wr bd S D (some ⟨g,0,none⟩) pa bc pc)(i:Nat)(c:i<D.bs.length)(b:List Value)(a:zS b):
 jl w (wr.setCells g (i*128) b) bd S {D with bs:=D.bs.set i b} (some ⟨g,0,none⟩) pa bc pc:=
 ⟨h.disk.setb i c b a,h.kept.trans (za.setCells (S:=S) g ((h.disk.own g).2 (.inr (.inl rfl))) b (i*128) wr) iL⟩
end disk
namespace disk
open Go.ChangeShapes Go.WideShapes Go.ChangeAt Go.RowKit
attribute [local go_sem ↓] Go.wp_at_zero Go.wp_at_succ
theorem kx(w:World)(bd:Nat)(S:Nat->Prop)(D:Dk)(ba pa:Option Addr)(bc pc:Nat)(h:zn w bd S D ba pa bc pc)(z:zD D.fuse)(H:(D.fuse==0)=false):
 Calls Tryz.prog 40 #[.pointer (some ⟨bd,0,none⟩)] w λe w'=>
  e=.returned (.bool true)/\(∃S',zg w' bd S' {D with bs:=zm D.bs D.ps,ps:=[],fuse:=qv D.fuse}/\∀k,S' k->S k)/\za S w w':=by
 obtain⟨o,s,T⟩:∃o:List Value,o=yq/\∀w,(zeroValue 133).run Tryz.prog w=.ok (.agg o.toArray) w:=⟨yq,rfl,zX Tryz.infoWrite⟩;have B:Hid (o.length=129):=by rw [s];exact congrArg (· +1) zG.1
 clear s;have W:=h.len;have j:Hid _:=h;have v:Hid _:=zY Tryz.infoWrite;clear h;go_enter Tryz.func40,Tryz.ntmps40;go_wp2_with (go_at_call 65;refine(uq _ bd S D ba pa bc pc j.out z).mono ?_;rintro e M ⟨rfl,n,p⟩;have r:=n.c1;change Hid _ at n p);have F:Hid (jl w M bd S {D with fuse:=qv D.fuse} ba pa bc pc):=⟨n.out,p.mono (λk C=>by rw [C];exact n.bdS)⟩;clear r;go_loopw [13] (λt wr=>∃k:Nat,k<=D.ps.length/\t=.int .i64 k/\jl w wr bd S {D with bs:=zm D.bs (D.ps.take k),fuse:=qv D.fuse} ba pa bc pc) (λt _=>D.ps.length-(intOf t).toNat)
 case atStart=>exact⟨0,aj _,rfl,F.out⟩
 case round=>
  obtain⟨k,C,rfl,a⟩:=hrel;change Hid _ at a;by_cases f:k<D.ps.length
  .obtain⟨P,rfl⟩:=j.prow (by omega);have m:Hid (D.ps[k].1<D.bs.length):=(j.ok.ps _ (ai f)).1;obtain⟨g,rfl⟩:=j.row (by have:=m.out;omega);have N:Hid _:=a.disk.prange k f;have d:Hid (zS D.ps[k].2):=(j.ok.ps _ (ai f)).2;have G:Hid _:=Qo D.bs D.ps k f;generalize O:D.ps[k]=q at*;obtain⟨b,c⟩:=q;clear O;have x:Hid (jl w (wr.alloc (.cells (.int .i64 (b:Int)::c).toArray 133)) bd S {D with bs:=zm D.bs (D.ps.take k),fuse:=qv D.fuse} (some ⟨g,0,none⟩) (some ⟨P,0,none⟩) bc pc):=a.alloc _;have l:(zm D.bs (D.ps.take k)).length=D.bs.length:=zC _ _;have Z:(wr.alloc (.cells (.int .i64 (b:Int)::c).toArray 133)).cell? ⟨bd,0,none⟩=some (.slice (some ⟨g,0,none⟩) D.bs.length bc):=by rw [<-l];exact x.disk.c0
   have Q:=x.disk.bthere b (by show b<(zm D.bs (D.ps.take k)).length;rw [l];exact m.out);have L:bd≠g:=λe=>j.ap1 (by rw [<-e];rfl);have ab:=a.disk.lt g ((a.disk.own g).2 (.inr (.inl rfl)));have U:=a.disk.lt bd a.disk.bdS;have K:wr.heap.size≠g:=by omega
   change Hid _ at l;have J:(k:Int)<(D.ps.length:Int):=by omega
   have af:(0:Int)<=(b:Int):=by omega
   have ad:(b:Int)<(D.bs.length:Int):=by have:=m.out;simp only at this;omega
   have aa:(wr.alloc (.cells (.int .i64 (b:Int)::c).toArray 133)).cell? ⟨wr.heap.size,0,none⟩=some (.int .i64 (b:Int)):=by simp
   have X:(wr.alloc (.cells (.int .i64 (b:Int)::c).toArray 133)).rangeAt wr.heap.size 1 c:=qX (ac wr _);have ag:=Tryz.underlying131;have u:=d.1;have E:=d.2;have Y:(Tryz.prog.info? 131).map (·.size)=some c.length:=by rw [u];exact zY Tryz.infoBlock
   go_wp2_with (first
    |(refine wpList_load_mid rfl 133 (.tmp 15) rfl _ _ rfl (.int .i64 (b:Int)::c) _ N.out Tryz.underlying133 rfl (by rw [ae,d.1];exact v.out) ?_)
    |(refine zi rfl 133 (.tmp 4) (.tmp 16) rfl _ _ (.int .i64 (b:Int)::c) rfl rfl rfl (by rw [ae,d.1];exact v.out) (by rw [ae,d.1];simpa using B.out) (aQ.2 ⟨rfl,d.2⟩) ?_))
   generalize (wr.alloc (.cells (.int .i64 (b:Int)::c).toArray 133))=ah at*
   go_region_held3 (λw'=>w'.cell? ⟨bd,0,none⟩=some (.slice (some ⟨g,0,none⟩) D.bs.length bc)/\w'.cell? ⟨wr.heap.size,0,none⟩=some (.int .i64 (b:Int))/\w'.rangeAt wr.heap.size 1 c/\w'.there g (b*128) 128)
    ((go_split_ands;simp only [World.rangeAt_drew,World.there_drew,World.cell?_drew] at *; refine⟨?_,?_,?_,?_⟩<;>first|assumption|(rw [World.cell?_setCells_out _ _ _ _ _ (by intro I _;simp at I;omega)];assumption)|(refine World.rangeAt_setCells_apart (by assumption) _ _ _ (by omega))|(apply World.there_setCells;assumption)))
    (fail)
   go_wp2;go_roundw
   case rel=>exact⟨k+1,by omega,by go_num,by rw [G.out];exact x.drew.setb b (by show b<(zm D.bs (D.ps.take k)).length;rw [l.out];exact m.out) c ⟨u,E⟩⟩
   case measure=>simp [intOf];omega
  .have R:¬(k:Int)<(D.ps.length:Int):=by omega
   have r:=a.disk.c1;have V:=a.disk.fz 1;go_wp2;go_ret;have A:=a.disk.nopend;rw [show D.ps.take k=D.ps from an (by omega)] at A;refine⟨rfl,⟨_,⟨ba,none,bc,0,A⟩,λi y=>?_⟩,a.kept.trans (za.setCell (S:=S) wr ⟨bd,1,none⟩ _ j.bdS) iL⟩;rcases y with rfl|y;.exact j.bdS
   .refine(a.disk.own i).2 (.inr (.inl ?_));rw [<-y];cases ba<;>rfl
theorem Y4(w:World)(bd:Nat)(S:Nat->Prop)(D:Dk)(ba pa:Option Addr)(bc pc:Nat)(h:zn w bd S D ba pa bc pc)(g:zD D.fuse)(b:(D.fuse==0)=true):
 Calls Tryz.prog 40 #[.pointer (some ⟨bd,0,none⟩)] w λe w'=>e=.returned (.bool false)/\zg w' bd S D/\za S w w':=by
 have d:D.fuse=0:=by simpa using b
 change Hid _ at h d;go_enter Tryz.func40,Tryz.ntmps40;go_wp2_with (go_at_call 65;refine(uq _ bd S D ba pa bc pc h g).mono ?_;rintro e l ⟨rfl,a,c⟩;change Hid _ at a c);go_ret;refine⟨rfl,⟨ba,pa,bc,pc,?_⟩,c.mono (λk i=>by rw [i];exact a.bdS)⟩;have f:=a.out;rw [d.out] at f
 have j:({D with fuse:=qv 0}:Dk)=D:=by have:=d.out;cases D;simp only at this;subst this;rfl
 rw [j] at f;exact f
def Dk.flush(D:Dk):Dk:=if D.fuse=0 then D else {D with bs:=zm D.bs D.ps,ps:=[],fuse:=qv D.fuse}
theorem yU(w:World)(bd:Nat)(S:Nat->Prop)(D:Dk)(h:zg w bd S D)(b:zD D.fuse):
 Calls Tryz.prog 40 #[.pointer (some ⟨bd,0,none⟩)] w λe w'=>
  e=.returned (.bool (!(D.fuse==0)))/\(∃S',zg w' bd S' D.flush/\∀k,S' k->S k)/\za S w w':=by
 obtain⟨ba,pa,bc,pc,h⟩:=h;by_cases a:D.fuse=0
 .rw [show (D.fuse==0)=true by simpa using a,show D.flush=D from aB a];exact(Y4 w bd S D ba pa bc pc h b (by simpa using a)).mono λe w' ⟨c,h2,d⟩=>⟨c,⟨S,h2,λ_ f=>f⟩,d⟩
 .rw [show (D.fuse==0)=false by simpa using a,show D.flush={D with bs:=zm D.bs D.ps,ps:=[],fuse:=qv D.fuse} from aw a];exact kx w bd S D ba pa bc pc h b (by simpa using a)
def sel:List (Nat×List Value)->List Bool->List (Nat×List Value)
 |[],_=>[]
 |p::ps,ks=>if ks.headD false then p::sel ps ks.tail else sel ps ks.tail
theorem Qp:∀(ps:List (Nat×List Value)) (ks:List Bool) (k:Nat) (a:k<ps.length),sel (ps.take (k+1)) ks=sel (ps.take k) ks++if ks.getD k false then [ps[k]] else []
 |[],_,_,a=>by simp at a
 |p::ps,ks,0,_=>by simp only [eT,iz,mn,sel,aK,List.getElem_cons_zero];cases ks<;>rfl
 |p::ps,ks,k+1,a=>by
  have b:=Qp ps ks.tail k (by simpa using a);have e:ks.tail.getD k false=ks.getD (k+1) false:=by cases ks<;>simp
  simp only [iz,sel,List.getElem_cons_succ];rw [b,e];split<;>simp
theorem dh:∀(ps:List (Nat×List Value)) (ks:List Bool) p,p∈sel ps ks->p∈ps
 |[],_,p,h=>by simp [sel] at h
 |q::ps,ks,p,h=>by
  unfold sel at h;split at h
  .rcases ar.1 h with rfl|h;.exact al ..
   .exact am _ (dh ps _ p h)
  .exact am _ (dh ps _ p h)
theorem ce(bs:List (List Value))(ps a:List (Nat×List Value)):zm bs (ps++a)=zm (zm bs ps) a:=by unfold zm;rw [lW]
theorem di(w:World)(bd:Nat)(S:Nat->Prop)(D:Dk)(ba pa:Option Addr)(bc pc:Nat)(h:zn w bd S D ba pa bc pc)(O:Option Addr)(ks:List Bool)(Z:Nat)(av:ks.length<=9223372036854775807)
 (K:∀j,j<ks.length->∃y B,O=some ⟨y,B,none⟩/\¬S y/\y<w.heap.size/\w.cell? ⟨y,B+j,none⟩=some (.bool (ks.getD j false))):
 Calls Tryz.prog 41 #[.pointer (some ⟨bd,0,none⟩),.slice O ks.length Z] w λe w'=>
  e=.returned (.tuple #[])/\(∃S',zg w' bd S' {D with bs:=zm D.bs (sel D.ps ks),ps:=[],fuse:= -1}/\∀k,S' k->S k)/\za S w w':=by
 obtain⟨C,F,ab⟩:∃C:List Value,C=yq/\∀w,(zeroValue 133).run Tryz.prog w=.ok (.agg C.toArray) w:=⟨yq,rfl,zX Tryz.infoWrite⟩;have A:Hid (C.length=129):=by rw [F];exact congrArg (· +1) zG.1
 clear F;have ar:=h.len;have p:Hid _:=h;have m:Hid _:=zY Tryz.infoWrite;have H:=h.c1;have R:Hid (jl w w bd S D ba pa bc pc):=⟨h,za.refl S w⟩;change Hid _ at K;clear h;go_enter Tryz.func41,Tryz.ntmps41;go_wp2;clear H;go_loopw [11] (λt wr=>∃k:Nat,k<=D.ps.length/\t=.int .i64 k/\jl w wr bd S {D with bs:=zm D.bs (sel (D.ps.take k) ks)} ba pa bc pc) (λt _=>D.ps.length-(intOf t).toNat)
 case atStart=>exact⟨0,aj _,rfl,R.out⟩
 case round=>
  obtain⟨k,ax,rfl,b⟩:=hrel;change Hid _ at b;by_cases o:k<D.ps.length
  .obtain⟨W,rfl⟩:=p.prow (by omega);have v:Hid (D.ps[k].1<D.bs.length):=(p.ok.ps _ (ai o)).1;obtain⟨g,rfl⟩:=p.row (by have:=v.out;omega);have L:Hid _:=b.disk.prange k o;have d:Hid (zS D.ps[k].2):=(p.ok.ps _ (ai o)).2;have z:Hid _:=Qp D.ps ks k o;generalize U:D.ps[k]=q at*;obtain⟨c,f⟩:=q;clear U;have x:Hid (jl w (wr.alloc (.cells (.int .i64 (c:Int)::f).toArray 133)) bd S {D with bs:=zm D.bs (sel (D.ps.take k) ks)} (some ⟨g,0,none⟩) (some ⟨W,0,none⟩) bc pc):=b.alloc _;have I:=d.1;have P:=d.2;have T:(k:Int)<(D.ps.length:Int):=by omega
   by_cases E:k<ks.length
   .have N:(k:Int)<(ks.length:Int):=by omega
    obtain⟨y,B,rfl,J,G,s⟩:=K.out k E;have l:=(x.kept.cell (a:=⟨y,B+k,none⟩) G J).trans s;change Hid _ at J;clear s G;cases n:ks.getD k false
    .rw [n] at l
     have r:Hid (sel (D.ps.take (k+1)) ks=sel (D.ps.take k) ks):=by show sel (D.ps.take (k+1)) ks=sel (D.ps.take k) ks;rw [z.out,n];simp
     clear n
     go_wp2_with (first
      |(refine wpList_load_mid rfl 133 (.tmp 14) rfl _ _ rfl (.int .i64 (c:Int)::f) _ L.out Tryz.underlying133 rfl (by rw [ae,d.1];exact m.out) ?_)
      |(refine zi rfl 133 (.tmp 5) (.tmp 15) rfl _ _ (.int .i64 (c:Int)::f) rfl rfl rfl (by rw [ae,d.1];exact m.out) (by rw [ae,d.1];simpa using A.out) (aQ.2 ⟨rfl,d.2⟩) ?_))
     go_roundw
     case rel=>exact⟨k+1,by omega,by go_num,by rw [r.out];exact x.out⟩
     case measure=>simp [intOf];omega
    .rw [n] at l
     have r:Hid (zm D.bs (sel (D.ps.take (k+1)) ks)=(zm D.bs (sel (D.ps.take k) ks)).set c f):=by show zm D.bs (sel (D.ps.take (k+1)) ks)=(zm D.bs (sel (D.ps.take k) ks)).set c f;rw [z.out,n,ce];rfl
     clear n;have u:(zm D.bs (sel (D.ps.take k) ks)).length=D.bs.length:=zC _ _;have ag:(wr.alloc (.cells (.int .i64 (c:Int)::f).toArray 133)).cell? ⟨bd,0,none⟩=some (.slice (some ⟨g,0,none⟩) D.bs.length bc):=by rw [<-u];exact x.disk.c0
     have aa:=x.disk.bthere c (by show c<(zm D.bs (sel (D.ps.take k) ks)).length;rw [u];exact v.out);have Y:bd≠g:=λe=>p.ap1 (by rw [<-e];rfl);have al:=b.disk.lt g ((b.disk.own g).2 (.inr (.inl rfl)));have aq:=b.disk.lt bd b.disk.bdS;have X:wr.heap.size≠g:=by omega
     change Hid _ at u;have am:(0:Int)<=(c:Int):=by omega
     have aw:(c:Int)<(D.bs.length:Int):=by have:=v.out;simp only at this;omega
     have ak:(wr.alloc (.cells (.int .i64 (c:Int)::f).toArray 133)).cell? ⟨wr.heap.size,0,none⟩=some (.int .i64 (c:Int)):=by simp
     have au:(wr.alloc (.cells (.int .i64 (c:Int)::f).toArray 133)).rangeAt wr.heap.size 1 f:=qX (ac wr _);have ay:=Tryz.underlying131;have af:(Tryz.prog.info? 131).map (·.size)=some f.length:=by rw [I];exact zY Tryz.infoBlock
     go_wp2_with (first
      |(refine wpList_load_mid rfl 133 (.tmp 14) rfl _ _ rfl (.int .i64 (c:Int)::f) _ L.out Tryz.underlying133 rfl (by rw [ae,d.1];exact m.out) ?_)
      |(refine zi rfl 133 (.tmp 5) (.tmp 15) rfl _ _ (.int .i64 (c:Int)::f) rfl rfl rfl (by rw [ae,d.1];exact m.out) (by rw [ae,d.1];simpa using A.out) (aQ.2 ⟨rfl,d.2⟩) ?_))
     generalize (wr.alloc (.cells (.int .i64 (c:Int)::f).toArray 133))=az at*;clear l
     go_region_held3 (λw'=>w'.cell? ⟨bd,0,none⟩=some (.slice (some ⟨g,0,none⟩) D.bs.length bc)/\w'.cell? ⟨wr.heap.size,0,none⟩=some (.int .i64 (c:Int))/\w'.rangeAt wr.heap.size 1 f/\w'.there g (c*128) 128)
      ((go_split_ands;simp only [World.rangeAt_drew,World.there_drew,World.cell?_drew] at *; refine⟨?_,?_,?_,?_⟩<;>first|assumption|(rw [World.cell?_setCells_out _ _ _ _ _ (by intro V _;simp at V;omega)];assumption)|(refine World.rangeAt_setCells_apart (by assumption) _ _ _ (by omega))|(apply World.there_setCells;assumption)))
      (fail)
     go_wp2;go_roundw
     case rel=>exact⟨k+1,by omega,by go_num,by rw [r.out];exact x.drew.setb c (by show c<(zm D.bs (sel (D.ps.take k) ks)).length;rw [u.out];exact v.out) f ⟨I,P⟩⟩
     case measure=>simp [intOf];omega
   .have N:¬(k:Int)<(ks.length:Int):=by omega
    have r:Hid (sel (D.ps.take (k+1)) ks=sel (D.ps.take k) ks):=by show sel (D.ps.take (k+1)) ks=sel (D.ps.take k) ks;rw [z.out,show ks.getD k false=false from by simp [mD E]];simp
    go_wp2_with (first
     |(refine wpList_load_mid rfl 133 (.tmp 14) rfl _ _ rfl (.int .i64 (c:Int)::f) _ L.out Tryz.underlying133 rfl (by rw [ae,d.1];exact m.out) ?_)
     |(refine zi rfl 133 (.tmp 5) (.tmp 15) rfl _ _ (.int .i64 (c:Int)::f) rfl rfl rfl (by rw [ae,d.1];exact m.out) (by rw [ae,d.1];simpa using A.out) (aQ.2 ⟨rfl,d.2⟩) ?_))
    go_roundw
    case rel=>exact⟨k+1,by omega,by go_num,by rw [r.out];exact x.out⟩
    case measure=>simp [intOf];omega
  .have ao:¬(k:Int)<(D.ps.length:Int):=by omega
   have H:=b.disk.c1;have ad:=b.disk.fz 1;have ah:=b.disk.c2;have ap:=b.disk.fz 2;go_wp2;go_end0;have Q:=b.disk.nopend.set_fuse (-1);rw [show D.ps.take k=D.ps from an (by omega)] at Q;refine⟨rfl,⟨_,⟨ba,none,bc,0,Q⟩,λi M=>?_⟩,(b.kept.trans (za.setCell (S:=S) wr ⟨bd,1,none⟩ _ p.bdS) iL).trans (za.setCell (S:=S) _ ⟨bd,2,none⟩ _ p.bdS) iL⟩;rcases M with rfl|M;.exact p.bdS
   .refine(b.disk.own i).2 (.inr (.inl ?_));rw [<-M];cases ba<;>rfl
end disk
end Go.Proofs.YtcoengihaobddaaGreatDoor

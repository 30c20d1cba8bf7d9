/- Part 2 of 36 of a proof: Disk3, Disk4, Ref1, Disk3b, Disk5, Disk6, Disk7, Disk8 -/
import Derived.Test.YtcoengihaobddaaGreatDoorJc01
import Derived.Deep.WholeRow
import Derived.Deep.CutRange
import Derived.Deep.QuietTactic
import Derived.BigQuiet
import Derived.Deep.RegionLaw
import Derived.Deep.DrawnRows
import Derived.Deep.RegionHeld3
set_option maxHeartbeats 8000000
set_option linter.unusedVariables false
set_option linter.unusedSimpArgs false
set_option maxRecDepth 8000
namespace Go.Proofs.YtcoengihaobddaaGreatDoor
namespace disk
open Go.ChangeShapes Go.WideShapes Go.ChangeAt Go.RowKit
variable {t:TypeId}{b bd bc pc:Nat}{w wr:World}{S:Nat->Prop}{D:Dk}{ba pa:Option Addr}{Zb cur cs:List Value}
def yu:List Value:=.int .i64 0::zX
theorem Tryz.infoWrite:(Tryz.prog.info? 133).map (λi=>(i.zero,i.size,i.bytes))=some (some (.agg yu.toArray),129,136):=by kernel_rfl
theorem zY{v:Value}{n:Nat}(h:(Tryz.prog.info? t).map (λi=>(i.zero,i.size,i.bytes))=some (some v,n,b)):∀w,(zeroValue t).run Tryz.prog w=.ok v w:=by
 obtain⟨i,a,c,_,_⟩:=eZ h;intro w;simp [zeroValue,typeInfo,a,c]
theorem zZ{v:Value}{n:Nat}(h:(Tryz.prog.info? t).map (λi=>(i.zero,i.size,i.bytes))=some (some v,n,b)):(Tryz.prog.info? t).map (·.size)=some n:=by
 obtain⟨i,c,_,a,_⟩:=eZ h;simp [c,a]
def xz(i:Nat)(ps:List (Nat×List Value))(b:List Value):List Value:=ps.foldl (λb p=>if p.1=i then p.2 else b) b
def Dk.look(D:Dk)(a:Int):List Value:=if 0<=a/\a<D.bs.length then xz a.toNat D.ps (D.bs.getD a.toNat []) else zX
theorem zo.row(h:zo w bd S D ba pa bc pc)(d:0<D.bs.length):∃g,ba=some ⟨g,0,none⟩:=by
 rcases h.rows.2 with⟨_,c⟩|⟨g,b,cur,a,_⟩;.omega
 .cases a;exact⟨g,rfl⟩
theorem zo.prow(h:zo w bd S D ba pa bc pc)(d:0<D.ps.length):∃g,pa=some ⟨g,0,none⟩:=by
 rcases h.pend.2 with⟨_,c⟩|⟨g,b,cur,a,_⟩;.omega
 .cases a;exact⟨g,rfl⟩
theorem zi{P:Program}{d:Array Oper}{rest:List Oper}{op:Oper}{a:Act}{f:World}{Q:Exit->Act->World->Prop}(e:op.guard=none)(b:TypeId)(r q:Operand)(g:op.op=.store b r q)
 (n:Nat) (c:Array Value) (cs:List Value) (l:n=f.heap.size) (k:a.eval r=.pointer (some ⟨n,0,none⟩)) (i:a.eval q=.agg cs.toArray)
 (j:(P.info? b).map (·.size)=some cs.length) (p:c.size=cs.length) (o:∀v∈cs,v.oneCell'=true)
 (h:wpList P d Q rest (a.put op.dst undef) (f.alloc (.cells cs.toArray b))):wpList P d Q (op::rest) a (f.alloc (.cells c b)):=by
 subst l;refine md e λ_ m=>?_;unfold Oper.wp execOp;simp only [g,k,i,run_storeAt_new (P:=P) f b c cs.toArray (by simpa using j) (by simpa using p) (all_oneCell_toArray o),ie,eD,iI];exact m _ _ h
structure jW (w wr:World) (bd:Nat) (S:Nat->Prop) (D:Dk) (ba pa:Option Addr) (bc pc:Nat) (Zb cur:List Value):Prop where
 disk:zo wr bd S D ba pa bc pc
 kept:za (λk=>k=bd) w wr
 resb:wr.heap[w.heap.size]? =some (.cells Zb.toArray 131 (0,0))
 curb:wr.heap[w.heap.size+1]? =some (.cells cur.toArray 131 (0,0))
theorem jW.lt(h:jW w wr bd S D ba pa bc pc Zb cur):w.heap.size+1<wr.heap.size:=
 (lT h.curb)
theorem jW.alloc(h:jW w wr bd S D ba pa bc pc Zb cur)(a:Obj):jW w (wr.alloc a) bd S D ba pa bc pc Zb cur:=by
 have b:=h.lt;refine⟨h.disk.kept (za.alloc (λ_=>False) wr a) nF,h.kept.trans (za.alloc _ wr a) iL,?_,?_⟩;.rw [ma wr a _ (by omega)];exact h.resb
 .rw [ma wr a _ b];exact h.curb
theorem jW.set(h:jW w wr bd S D ba pa bc pc Zb cur)(c:∀k,S k->k<w.heap.size)
 (cs:List Value) (b:cur.length=cs.length):jW w (wr.setCells (w.heap.size+1) 0 cs) bd S D ba pa bc pc Zb cs:=by
 refine⟨h.disk.kept (za.setCells (S:=λk=>k=w.heap.size+1) _ rfl cs 0 wr) (λk a e=>by have:=c k a;omega),h.kept.trans (za.setCells (S:=λk=>k=w.heap.size+1) _ rfl cs 0 wr) (λk a=>.inr (by omega)),?_,?_⟩;.rw [xd _ _ (by omega)];exact h.resb
 .rw [qa _ _ cs 0 wr _ h.curb (by simp;omega)];congr 2;apply lF;simp [b]
theorem jW.done(h:jW w wr bd S D ba pa bc pc Zb cur)(c:∀k,S k->k<w.heap.size)
 (b:Zb.length=cur.length):zo (wr.setCells w.heap.size 0 cur) bd S D ba pa bc pc/\za (λk=>k=bd) w (wr.setCells w.heap.size 0 cur)/\
  (wr.setCells w.heap.size 0 cur).heap[w.heap.size]? =some (.cells cur.toArray 131 (0,0)):=by
 refine⟨h.disk.kept (za.setCells (S:=λk=>k=w.heap.size) _ rfl cur 0 wr) (λk a e=>by have:=c k a;omega),h.kept.trans (za.setCells (S:=λk=>k=w.heap.size) _ rfl cur 0 wr) (λk a=>.inr (by omega)),?_⟩;rw [qa _ _ cur 0 wr _ h.resb (by simp;omega)];congr 2;apply lF;simp [b]
theorem zR(c:w.heap[b]? =some (.cells cs.toArray t (0,0))):w.rangeAt b 0 cs:=λj v a=>by
 rw [aG w b (0+j) _ t (0,0) c];simpa using a
theorem yd(a:w.heap[b]? =some (.cells cs.toArray t (0,0))):w.there b 0 cs.length:=λj c=>
 ⟨(zR a).isSome j c,aa w b _ _ t a⟩
theorem qZ{c:Value}(a:w.heap[b]? =some (.cells (c::cs).toArray t (0,0))):w.rangeAt b 1 cs:=λj v d=>by
 rw [aG w b (1+j) _ t (0,0) a,iG];simpa using d
theorem zo.range{g:Nat}(h:zo w bd S D (some ⟨g,0,none⟩) pa bc pc)(i:Nat)(c:i<D.bs.length):w.rangeAt g (i*128) D.bs[i]:=
 yr h.rows (λb a=>(h.ok.bs b a).1) i c
theorem Y0(h:D.Ok):∀b∈D.ps.map zN,b.length=129:=λb c=>by
 obtain⟨p,a,rfl⟩:=au.1 c;have:=(h.ps p a).2.1;simp [zN,this]
theorem zo.prange{g:Nat}(h:zo w bd S D ba (some ⟨g,0,none⟩) bc pc)(i:Nat)(b:i<D.ps.length):w.rangeAt g (i*129) (.int .i64 (D.ps[i].1:Int)::D.ps[i].2):=by
 have a:=h.pend;rw [show D.ps.length=(D.ps.map zN).length from by simp] at a;have:=yr a (Y0 h.ok) i (by simpa using b);simpa [zN] using this
theorem Qj(i:Nat)(ps:List (Nat×List Value))(b:List Value)(k:Nat)(a:k<ps.length):xz i (ps.take (k+1)) b=if ps[k].1=i then ps[k].2 else xz i (ps.take k) b:=by
 unfold xz;rw [ao a,lW];rfl
theorem cF{i:Nat}{b:List Value}(a:zT b):∀{ps:List (Nat×List Value)},(∀p∈ps,zT p.2)->zT (xz i ps b):=by
 intro ps
 induction ps generalizing b with
 |nil=>intro _;exact a
 |cons p ps d=>
  intro h;unfold xz;rw [lM];refine d ?_ (λq c=>h q (am _ c));split;.exact h p (al ..)
  .exact a
theorem zo.len(h:zo w bd S D ba pa bc pc):D.ps.length<=9223372036854775807:=by
 rcases h.pend.2 with⟨_,d⟩|⟨g,a,cur,b,_,_,c,h2,_⟩;.omega
 .unfold maxLen at h2;omega
theorem UF(w:World)(bd:Nat)(S:Nat->Prop)(D:Dk)(ba pa:Option Addr)(bc pc:Nat)(h:zo w bd S D ba pa bc pc)(i:Nat)(F:i<D.bs.length)(ab:0<=D.reads)(ad:D.reads<=4611686018427387904):
 Calls Tryz.prog 81 #[.pointer (some ⟨bd,0,none⟩),.int .i64 i] w λe w'=>
  e=.returned (.agg (D.look i).toArray)/\zo w' bd S {D with reads:=D.reads+1} ba pa bc pc/\za (λk=>k=bd) w w':=by
 obtain⟨Zb,A,am⟩:∃Zb:List Value,Zb=zX/\∀w,(zeroValue 131).run Tryz.prog w=.ok (.agg Zb.toArray) w:=⟨zX,rfl,zY Tryz.infoBlock⟩;obtain⟨s,y,Z⟩:∃s:List Value,s=yu/\∀w,(zeroValue 133).run Tryz.prog w=.ok (.agg s.toArray) w:=⟨yu,rfl,zY Tryz.infoWrite⟩;have r:Hid (Zb.length=128):=by rw [A];exact zH.1
 have x:Hid (s.length=129):=by rw [y];exact congrArg (· +1) zH.1
 clear A y;obtain⟨g,rfl⟩:=h.row (by omega);have X:=h.c0;have ak:=h.c1;have ag:=h.c3;have Y:=h.fz 3;have ah:=h.lt bd h.bdS;have G:Hid (zo w bd S D (some ⟨g,0,none⟩) pa bc pc):=h;have af:=h.len;have j:Hid (zT D.bs[i]):=h.ok.bs _ (ai F);have u:Hid _:=h.lt;have T:Hid _:=h.set_reads (D.reads+1)
 have K:Hid (zo ((w.setCell ⟨bd,3,none⟩ (.int .i64 (D.reads+1))).alloc (.cells Zb.toArray 131)) bd S {D with reads:=D.reads+1} (some ⟨g,0,none⟩) pa bc pc):=
  T.kept (za.alloc (λ_=>False) _ _) nF
 have Q:Hid (jW w (((w.setCell ⟨bd,3,none⟩ (.int .i64 (D.reads+1))).alloc (.cells Zb.toArray 131)).alloc (.cells D.bs[i].toArray 131)) bd S {D with reads:=D.reads+1} (some ⟨g,0,none⟩) pa bc pc Zb D.bs[i]):=by
  refine⟨K.kept (za.alloc (λ_=>False) _ _) nF,((za.setCell (S:=λk=>k=bd) w _ _ rfl).trans (za.alloc _ _ _) iL).trans (za.alloc _ _ _) iL,?_,?_⟩
  .have:=heap_alloc2_old (w.setCell ⟨bd,3,none⟩ (.int .i64 (D.reads+1))) (.cells Zb.toArray 131) (.cells D.bs[i].toArray 131);simpa using this
  .have:=eF (w.setCell ⟨bd,3,none⟩ (.int .i64 (D.reads+1))) (.cells Zb.toArray 131) (.cells D.bs[i].toArray 131);simpa using this
 have n:Hid _:=zZ Tryz.infoBlock;have o:Hid _:=zZ Tryz.infoWrite;clear h;have H:(i:Int)<(D.bs.length:Int):=by omega
 go_enter Tryz.func81,Tryz.ntmps81
 go_wp2_with (first
  |(refine wpList_load_mid rfl 131 (.tmp 32) rfl _ _ rfl D.bs[i] _ (K.range i F) Tryz.underlying131 rfl (by rw [j.1];exact n.out) ?_)
  |(refine zi rfl 131 (.tmp 5) (.tmp 33) rfl _ _ D.bs[i] (by simp) rfl rfl (by rw [j.1];exact n.out) (by rw [j.1];simpa using r.out) j.2 ?_))
 go_loopw [39] (λt wr=>∃k:Nat,k<=D.ps.length/\t=.int .i64 k/\jW w wr bd S {D with reads:=D.reads+1} (some ⟨g,0,none⟩) pa bc pc Zb (xz i (D.ps.take k) D.bs[i])) (λt _=>D.ps.length-(intOf t).toNat)
 case atStart=>exact⟨0,aj _,rfl,Q.out⟩
 case round=>
  obtain⟨k,al,rfl,b⟩:=hrel;change Hid _ at b;have d:Hid (zT (xz i (D.ps.take k) D.bs[i])):=cF j.out (λp R=>(G.ok.ps p (aP R)).2);have aa:=b.lt;by_cases m:k<D.ps.length
  .obtain⟨O,rfl⟩:=G.prow (by omega);have J:Hid _:=b.disk.prange k m;have a:Hid (zT D.ps[k].2):=(G.ok.ps _ (ai m)).2;have B:Hid _:=Qj i D.ps D.bs[i] k m;generalize P:D.ps[k]=q at*;obtain⟨c,l⟩:=q;have z:Hid (Value.oneCell' (.int .i64 (c:Int))=true):=rfl;have E:Hid (jW w (wr.alloc (.cells (.int .i64 (c:Int)::l).toArray 133)) bd S {D with reads:=D.reads+1} (some ⟨g,0,none⟩) (some ⟨O,0,none⟩) bc pc Zb (xz i (D.ps.take k) D.bs[i])):=b.alloc _;clear P;have V:(k:Int)<(D.ps.length:Int):=by omega
   by_cases f:c=i
   .have L:((c:Int)==(i:Int))=true:=by simp [f]
    have C:Hid _:=f;clear f
    go_wp2_with (first
     |(refine wpList_load_mid rfl 133 (.tmp 41) rfl _ _ rfl (.int .i64 (c:Int)::l) _ J.out Tryz.underlying133 rfl (by rw [ae,a.1];exact o.out) ?_)
     |(refine zi rfl 133 (.tmp 7) (.tmp 42) rfl _ _ (.int .i64 (c:Int)::l) rfl rfl rfl (by rw [ae,a.1];exact o.out) (by rw [ae,a.1];simpa using x.out) (aQ.2 ⟨z.out,a.2⟩) ?_)
     |(refine wpList_load_mid rfl 131 (.tmp 47) rfl _ _ rfl l _ (qZ (ac wr _)) Tryz.underlying131 rfl (by rw [a.1];exact n.out) ?_)
     |(refine wpList_store_mid rfl 131 (.tmp 5) (.tmp 48) rfl _ _ _ rfl rfl (by have:=yd E.curb;rw [d.1] at this;simpa [a.1] using this) (by rw [aq,a.1];exact n.out) (all_oneCell_toArray a.2) ?_))
    go_roundw
    case rel=>exact⟨k+1,by omega,by go_num,by rw [B.out,aB C.out];exact E.set u.out l (by rw [d.1,a.1])⟩
    case measure=>simp [intOf];omega
   .have L:((c:Int)==(i:Int))=false:=by simp;omega
    have C:Hid _:=f;clear f
    go_wp2_with (first
     |(refine wpList_load_mid rfl 133 (.tmp 41) rfl _ _ rfl (.int .i64 (c:Int)::l) _ J.out Tryz.underlying133 rfl (by rw [ae,a.1];exact o.out) ?_)
     |(refine zi rfl 133 (.tmp 7) (.tmp 42) rfl _ _ (.int .i64 (c:Int)::l) rfl rfl rfl (by rw [ae,a.1];exact o.out) (by rw [ae,a.1];simpa using x.out) (aQ.2 ⟨z.out,a.2⟩) ?_))
    go_roundw
    case rel=>exact⟨k+1,by omega,by go_num,by rw [B.out,aw C.out];exact E.out⟩
    case measure=>simp [intOf];omega
  .have W:¬(k:Int)<(D.ps.length:Int):=by omega
   go_wp2_with (first
    |(refine wpList_load_mid rfl 131 (.tmp 5) rfl _ _ rfl (xz i (D.ps.take k) D.bs[i]) _ (zR b.curb) Tryz.underlying131 rfl (by rw [d.1];exact n.out) ?_)
    |(refine wpList_store_mid rfl 131 (.tmp 4) (.tmp 50) rfl _ _ _ rfl rfl (by have:=yd b.resb;rw [r.out] at this;simpa [d.1] using this) (by rw [aq,d.1];exact n.out) (all_oneCell_toArray d.2) ?_))
   obtain⟨N,U,M⟩:=b.done u.out (by rw [r.out,d.1])
   have I:xz i (D.ps.take k) D.bs[i]=D.look i:=by unfold Dk.look;rw [aB ⟨by omega,H⟩,an (by omega),mu,aA,aH F,iT]
   refine bodyPost_ret (v:=.agg (xz i (D.ps.take k) D.bs[i]).toArray) (results_cell_row Tryz.results81 _ _ w.heap.size 131 _ (0,0) _ rfl M Tryz.underlying131 rfl (by rw [aq,d.1];exact n.out)) rfl ⟨by rw [I],N,U⟩
end disk
namespace disk
open Go.RowKit
theorem Qk(b:Nat):∀(vs:List Value) (k:Nat) (a:Array Value),b+k+vs.length<=a.size->
 ((vs.zipIdx k).foldl (λcs (p:Value×Nat)=>cs.setIfInBounds (b+p.2) p.1) a).toList=a.toList.take (b+k)++vs++a.toList.drop (b+k+vs.length)
 |[],k,a,_=>by simp
 |v::r,k,a,h=>by simp only [ae] at h;rw [List.zipIdx_cons,lM,Qk b r (k+1) _ (by simp;omega)];simp only [Array.toList_setIfInBounds,ae];rw [hE,aB (by simp;omega)];obtain⟨k1,k2⟩:=Ja (a.toList.take (b+k)) (a.toList.drop (b+k+1)) v (b+k) r.length (by simp;omega);rw [show b+(k+1)=b+k+1 from by omega,k1,k2,eA,show b+k+1+r.length=b+k+(r.length+1) from by omega];simp
theorem gt(b:Nat)(vs:List Value)(a:Array Value)(h:b+vs.length<=a.size):
 vs.zipIdx.foldl (λcs (p:Value×Nat)=>cs.setIfInBounds (b+p.2) p.1) a=(a.toList.take b++vs++a.toList.drop (b+vs.length)).toArray:=by
 apply lF;rw [Qk b vs 0 a (by simpa using h)];simp
theorem vw(vs:List Value)(a:Array Value)(h:vs.length=a.size):
 vs.zipIdx.foldl (λcs (p:Value×Nat)=>cs.setIfInBounds p.2 p.1) a=vs.toArray:=by
 have:=gt 0 vs a (by omega);simp only [eT] at this;rw [this,h];simp
theorem xA{t:TypeId}{n:Nat}(h:(Tryz.prog.info? t).map (·.size)=some n)(w:World):(sizeOf t).run Tryz.prog w=.ok n w:=by
 cases a:Tryz.prog.info? t with
 |none=>simp [a] at h
 |some i=>simp [a] at h;simp [sizeOf,typeInfo,a,h]
theorem Ql:(Tryz.prog.info? 3).map (·.size)=some 1:=by kernel_rfl
theorem fP(w:World)(n:Int)(b:List Value)(h:b.length=128):
 (Instr.build 133 #[(0,.int .i64 n),(1,.agg b.toArray)]).run Tryz.prog w=.ok (.agg (.int .i64 n::b).toArray) w:=by
 have j:=zY Tryz.infoWrite w;have a:yu.length=129:=congrArg (· +1) zH.1;have i:=xA Ql;have h2:=xA (zZ Tryz.infoBlock);generalize k:yu=c at*;have d:¬c=[]:=λe=>by rw [e] at a;simp at a
 have f:=gt 1 b (c.set 0 (.int .i64 n)).toArray (by simp [h,a]);have g:¬(¬b.length=128\/c.length<1+b.length):=by omega
 simp only [Instr.build,ie,j,eD,ii Tryz.underlying133 w];simp [i,h2,Value.cells,Instr.fill];rw [aw d,aw g,f];simp only [iI];congr 2;apply lF
 cases c with
 |nil=>exact absurd rfl d
 |cons z l=>simp [h];simp at a;omega
theorem fQ(w:World)(cs:List Value)(h:cs.length=129):
 (Instr.buildSlice 116 1 #[(0,.agg cs.toArray)]).run Tryz.prog w=.ok (.slice (some ⟨w.heap.size,0,none⟩) 1 1) (w.alloc (.cells cs.toArray 133)):=by
 have c:=zY Tryz.infoWrite w;have h2:=xA (zZ Tryz.infoWrite);have b:=congrArg (· +1) zH.1;generalize d:yu=e at*;have a:¬(¬cs.length=129\/129<cs.length):=by omega
 simp only [Instr.buildSlice,ie,eD,ii Tryz.underlying116 w]
 first
  |(simp [h2,Value.cells,Instr.fill]
    rw [aw a,vw cs _ (by simp [h])];simp [newRow]
    done)
  |(simp [h2,c,Value.cells,Instr.fill,b]
    rw [aw a,vw cs _ (by simp [h])]
    simp [newRow])
def K3(parts:Array (Nat×Value)):Sem Value:=Instr.build 133 parts
theorem JQ(parts:Array (Nat×Value)):Instr.build 133 parts=K3 parts:=rfl
theorem Y1(w:World)(n:Int)(b:List Value)(h:b.length=128):(K3 #[(0,.int .i64 n),(1,.agg b.toArray)]).run Tryz.prog w=.ok (.agg (.int .i64 n::b).toArray) w:=fP w n b h
def K4(len:Nat)(parts:Array (Nat×Value)):Sem Value:=Instr.buildSlice 116 len parts
theorem JR(a:Nat)(parts:Array (Nat×Value)):Instr.buildSlice 116 a parts=K4 a parts:=rfl
theorem Y2(w:World)(c:Value)(cs:List Value)(h:cs.length=128):(K4 1 #[(0,.agg (c::cs).toArray)]).run Tryz.prog w=.ok (.slice (some ⟨w.heap.size,0,none⟩) 1 1) (w.alloc (.cells (c::cs).toArray 133)):=
 fQ w (c::cs) (by simp [h])
def K5(v:Value):Sem Value:=Instr.loadAt 131 v
theorem K6(v:Value):Instr.loadAt 131 v=K5 v:=rfl
theorem JS(w:World)(b a:Nat)(cs:List Value)(c:w.rangeAt b a cs)(h:cs.length=128):(K5 (.pointer (some ⟨b,a,none⟩))).run Tryz.prog w=.ok (.agg cs.toArray) w:=
 run_loadAt_mid w b a 131 cs _ c Tryz.underlying131 rfl (by rw [h];exact zZ Tryz.infoBlock)
end disk
namespace ref
open Go.ChangeShapes Go.WideShapes Go.ChangeAt Go.RowKit disk
open keys (zh ze zy zs)
theorem qP{a b:ByteArray}:a.toList=b.toList↔a=b:=⟨λh=>vu (by rw [<-eC,<-eC,h]),λh=>by rw [h]⟩
def uw(vs:List zB)(k:ByteArray)(n:Int):Int:=((vs.findIdx? λv=>decide (v.key=k)&&decide (v.num=n)).map λi=>(i:Int)).getD (-1)
theorem K7{vs:List zB}{k:ByteArray}{n:Int}{i:Nat}(e:i<vs.length)(c:vs[i].key=k)(f:vs[i].num=n)(a:∀j (b:j<vs.length),j<i->¬(vs[j].key=k/\vs[j].num=n)):uw vs k n=(i:Int):=by
 have:vs.findIdx? (λv=>decide (v.key=k)&&decide (v.num=n))=some i:=eQ.2 ⟨e,by simp [c,f],λj b=>by have:=a j (by omega) b;simp;exact λd h2=>this ⟨d,h2⟩⟩;simp [uw,this]
theorem JT{vs:List zB}{k:ByteArray}{n:Int}(a:∀j (b:j<vs.length),¬(vs[j].key=k/\vs[j].num=n)):uw vs k n= -1:=by
 have:vs.findIdx? (λv=>decide (v.key=k)&&decide (v.num=n))=none:=im.2 λe d=>by obtain⟨j,b,rfl⟩:=ed d;have:=a j b;simp;exact λc h2=>this ⟨c,h2⟩
 simp [uw,this]
theorem dv(vs:List zB)(k:ByteArray)(n:Int):(uw vs k n= -1/\yl vs k n=none)\/∃(i:Nat) (h:i<vs.length),uw vs k n=(i:Int)/\yl vs k n=some vs[i]:=by
 cases h:vs.findIdx? (λv=>decide (v.key=k)&&decide (v.num=n)) with
 |none=>
  left;refine⟨by simp [uw,h],lz.2 λe d=>by rw [im.1 h e d];simp⟩
 |some i=>
  right;obtain⟨a,c,h2⟩:=eQ.1 h;refine⟨i,a,by simp [uw,h],?_⟩;exact List.find?_eq_some_iff_getElem.2 ⟨c,i,a,rfl,λj b=>by have:=h2 j b;rw [Bool.not_eq_true] at this;rw [this];rfl⟩
theorem xi(w:World)(F x:Nat->Prop)(b:Nat)(vs:List zB)(m:Int)(h:zG w F x b vs m)(q:vs.length<=9223372036854775807)(c:ByteArray)(n:Int):
 Calls Tryz.prog 153 #[.pointer (some ⟨b,0,none⟩),.string c,.int .i64 n] w λe w'=>e=.returned (.int .i64 (uw vs c n))/\w'=w:=by
 obtain⟨a,t,cs,h⟩:=h;have r:=h.c0;have o:Hid _:=h;clear h;go_enter Tryz.func153,Tryz.ntmps153;go_wp2;go_loop [7] (λi=>∃k:Nat,k<=vs.length/\i=.int .i64 k/\∀j (f:j<vs.length),j<k->¬(vs[j].key=c/\vs[j].num=n)) (λi=>vs.length-(intOf i).toNat)
 case atStart=>exact⟨0,aj _,rfl,λ_ _ h=>by omega⟩
 case round=>
  obtain⟨k,v,rfl,d⟩:=hrel;change Hid _ at d;by_cases l:k<vs.length
  .obtain⟨g,rfl⟩:=o.rowAt (by omega);obtain⟨u,y,_⟩:=o.cells k l
   have next:¬(vs[k].key=c/\vs[k].num=n)->∀j (f:j<vs.length),j<k+1->¬(vs[j].key=c/\vs[j].num=n):=λp j f s=>by
    by_cases e:j=k;.subst e;exact p
    .exact d j f (by omega)
   change Hid _ at next
   go_wp2
   .go_ret;exact⟨zh (K7 l (qP.1 ‹_›) (zs ‹_›) d).symm,rfl⟩
   all_goals
    go_round
    case rel=>exact⟨k+1,by omega,by go_num,next (λh=>by first|exact absurd (qP.2 h.1) ‹_› |exact absurd h.2 (zy ‹_›))⟩
    case measure=>simp [intOf];omega
  .go_wp2;go_ret;exact⟨zh (JT λj f=>d j f (by omega)).symm,rfl⟩
def Qm(vs:List zB)(key:ByteArray)(k:Nat)(t:Value):Prop:=
 (t=.int .i64 (-1)/\qe (vs.take k) key=none)\/∃(m:Nat) (h:m<vs.length),m<k/\t=.int .i64 (m:Int)/\qe (vs.take k) key=some vs[m]
theorem Qn(vs:List zB)(a:ByteArray)(k:Nat)(h:k<vs.length):qe (vs.take (k+1)) a=vS a (qe (vs.take k) a) vs[k]:=by
 unfold qe;rw [ao h,lW];rfl
theorem xn(w:World)(F J:Nat->Prop)(b:Nat)(vs:List zB)(u:Int)(h:zG w F J b vs u)(A:vs.length<=9223372036854775807)(d:ByteArray):
 Calls Tryz.prog 154 #[.pointer (some ⟨b,0,none⟩),.string d] w λe w'=>(∃i,e=.returned i/\Qm vs d vs.length i)/\∃n,w'=w.drewN n:=by
 obtain⟨a,C,cs,h⟩:=h;have s:Hid _:=h;clear h;go_enter Tryz.func154,Tryz.ntmps154;go_wp2;go_loopw [5,6] (λt i wr=>∃k:Nat,k<=vs.length/\i=.int .i64 k/\Qm vs d k t/\∃n,wr=w.drewN n) (λ_ i _=>vs.length-(intOf i).toNat)
 case atStart=>exact⟨0,aj _,rfl,.inl ⟨rfl,rfl⟩,0,rfl⟩
 case round=>
  obtain⟨k,I,rfl,f,L,rfl⟩:=hrel;change Hid _ at f;have B:=s.c0;by_cases l:k<vs.length
  .have q:=Qn vs d k l;obtain⟨g,rfl⟩:=s.rowAt (by omega);obtain⟨H,K,_⟩:=s.cells k l;change Hid _ at q;rcases f.out with⟨rfl,o⟩|⟨m,v,G,rfl,j⟩
   .have p:Hid _:=o;clear o;by_cases c:vs[k].key.toList=d.toList
    .have x:(decide ((-1:Int)<0))=true:=rfl;go_wp2;go_quiet (fail);go_wp2;go_roundw
     case rel=>exact⟨k+1,by omega,by go_num,.inr ⟨k,l,by omega,rfl,by rw [q.out,p.out];exact aB (qP.1 c)⟩,_,rfl⟩
     case measure=>simp [intOf];omega
    .have x:(vs[k].key.toList==d.toList)=false:=by simpa using c
     have z:=decide_eq_false c;go_wp2;go_quiet (fail);go_wp2;go_roundw
     case rel=>exact⟨k+1,by omega,by go_num,.inl ⟨rfl,by rw [q.out,p.out];exact aw (λh=>c (qP.2 h))⟩,_,rfl⟩
     case measure=>simp [intOf];omega
   .have p:Hid _:=j;clear j;obtain⟨_,M,_⟩:=s.cells m v;have D:decide ((m:Int)<0)=false:=decide_eq_false (by omega);have E:(m:Int)<(vs.length:Int):=by omega
    by_cases c:vs[k].key.toList=d.toList
    .by_cases r:vs[m].num<vs[k].num
     .have y:=aJ r;go_wp2;go_quiet (fail);go_wp2;go_roundw
      case rel=>exact⟨k+1,by omega,by go_num,.inr ⟨k,l,by omega,rfl,by rw [q.out,p.out];exact aB ⟨qP.1 c,r⟩⟩,_,rfl⟩
      case measure=>simp [intOf];omega
     .have y:=decide_eq_false r;go_wp2;go_quiet (fail);go_wp2;go_roundw
      case rel=>exact⟨k+1,by omega,by go_num,.inr ⟨m,v,by omega,rfl,by rw [q.out,p.out];exact aw (λh=>by have:=h.2;omega)⟩,_,rfl⟩
      case measure=>simp [intOf];omega
    .have x:(vs[k].key.toList==d.toList)=false:=by simpa using c
     have z:=decide_eq_false c;go_wp2;go_quiet (fail);go_wp2;go_roundw
     case rel=>exact⟨k+1,by omega,by go_num,.inr ⟨m,v,by omega,rfl,by rw [q.out,p.out];exact aw (λh=>c (qP.2 h.1))⟩,_,rfl⟩
     case measure=>simp [intOf];omega
  .have e:k=vs.length:=by omega
   go_wp2;go_ret;refine⟨⟨_,rfl,?_⟩,_,rfl⟩;rw [<-e];exact f.out
end ref
namespace disk
open Go.ChangeShapes Go.WideShapes Go.ChangeAt Go.RowKit
theorem K8(w:World)(bd:Nat)(S:Nat->Prop)(D:Dk)(ba pa:Option Addr)(bc pc:Nat)(h:zo w bd S D ba pa bc pc)(a:Int)(m:zD a)(f:a<0\/D.bs.length<=a)(o:0<=D.reads)(s:D.reads<=4611686018427387904):
 Calls Tryz.prog 81 #[.pointer (some ⟨bd,0,none⟩),.int .i64 a] w λe w'=>
  e=.returned (.agg (D.look a).toArray)/\zo w' bd S {D with reads:=D.reads+1} ba pa bc pc/\za (λk=>k=bd) w w':=by
 obtain⟨Zb,c,x⟩:∃Zb:List Value,Zb=zX/\∀w,(zeroValue 131).run Tryz.prog w=.ok (.agg Zb.toArray) w:=⟨zX,rfl,zY Tryz.infoBlock⟩
 have l:Hid (D.look a=Zb):=by show D.look a=Zb;unfold Dk.look;rw [aw (by omega),c]
 have b:Hid (zT Zb):=by rw [c];exact zH
 clear c;have p:=h.c0;have t:=h.c3;have q:=h.fz 3;have u:=h.lt bd h.bdS;have d:Hid _:=zZ Tryz.infoBlock;obtain⟨n,r⟩:=m;have g:Hid _:=h.set_reads (D.reads+1)
 have j:Hid (zo ((w.setCell ⟨bd,3,none⟩ (.int .i64 (D.reads+1))).alloc (.cells Zb.toArray 131)) bd S {D with reads:=D.reads+1} ba pa bc pc):=
  g.kept (za.alloc (λ_=>False) _ _) nF
 have i:Hid (za (λk=>k=bd) w ((w.setCell ⟨bd,3,none⟩ (.int .i64 (D.reads+1))).alloc (.cells Zb.toArray 131))):=
  (za.setCell (S:=λk=>k=bd) w _ _ rfl).trans (za.alloc _ _ _) iL
 clear h g;rcases f with f|f
 .go_enter Tryz.func81,Tryz.ntmps81;go_wp2_with (refine zi rfl 131 (.tmp 4) (.tmp 26) rfl _ _ Zb (by simp) rfl rfl (by rw [b.1];exact d) (by simp) b.2 ?_);refine bodyPost_ret (v:=.agg Zb.toArray) (results_cell_row Tryz.results81 _ _ w.heap.size 131 _ (0,0) _ rfl (by have:=ac (w.setCell ⟨bd,3,none⟩ (.int .i64 (D.reads+1))) (.cells Zb.toArray 131);simpa using this) Tryz.underlying131 rfl (by rw [aq,b.1];exact d)) rfl ⟨by rw [l.out],j,i⟩
 .go_enter Tryz.func81,Tryz.ntmps81;go_wp2_with (refine zi rfl 131 (.tmp 4) (.tmp 26) rfl _ _ Zb (by simp) rfl rfl (by rw [b.1];exact d) (by simp) b.2 ?_);refine bodyPost_ret (v:=.agg Zb.toArray) (results_cell_row Tryz.results81 _ _ w.heap.size 131 _ (0,0) _ rfl (by have:=ac (w.setCell ⟨bd,3,none⟩ (.int .i64 (D.reads+1))) (.cells Zb.toArray 131);simpa using this) Tryz.underlying131 rfl (by rw [aq,b.1];exact d)) rfl ⟨by rw [l.out],j,i⟩
theorem jr(w:World)(bd:Nat)(S:Nat->Prop)(D:Dk)(h:zg w bd S D)(a:Int)(j:zD a)(b:0<=D.reads)(c:D.reads<=4611686018427387904):
 Calls Tryz.prog 81 #[.pointer (some ⟨bd,0,none⟩),.int .i64 a] w λe w'=>
  e=.returned (.agg (D.look a).toArray)/\zg w' bd S {D with reads:=D.reads+1}/\za (λk=>k=bd) w w':=by
 obtain⟨ba,pa,bc,pc,h⟩:=h;by_cases g:a<0\/D.bs.length<=a;.exact(K8 w bd S D ba pa bc pc h a j g b c).mono λe w' ⟨f,h2,d⟩=>⟨f,⟨ba,pa,bc,pc,h2⟩,d⟩
 .obtain⟨i,rfl⟩:∃i:Nat,a=i:=⟨a.toNat,by omega⟩;exact(UF w bd S D ba pa bc pc h i (by omega) b c).mono λe w' ⟨f,h2,d⟩=>⟨f,⟨ba,pa,bc,pc,h2⟩,d⟩
end disk
namespace disk
open Go.ChangeShapes Go.WideShapes Go.ChangeAt Go.RowKit
attribute [local go_sem ↓] Go.wp_at_zero Go.wp_at_succ JQ JR K6
attribute [local go_sem] Y1 Y2
theorem zo.pushed{w c:World}{bd:Nat}{S:Nat->Prop}{D:Dk}{ba pa:Option Addr}{bc pc:Nat}(h:zo w bd S D ba pa bc pc)(v:Obj)(i:Nat)(y:i<D.bs.length)(b:List Value)(x:zT b)(g d:Nat)
 (q:c.ownsRow 0 133 129 (.slice (some ⟨g,0,none⟩) (D.ps.length+1) d) (D.ps.length+1) ((D.ps.map zN).flatten++.int .i64 (i:Int)::b))
 (o:(w.alloc v).drew.grownBy c (Value.slice pa D.ps.length pc).ownBlock) (m:(Value.slice pa D.ps.length pc).ownBlock=some g\/g=w.heap.size+1):
 zo (c.setCell ⟨bd,1,none⟩ (.slice (some ⟨g,0,none⟩) (D.ps.length+1) d)) bd (λk=>k=bd\/(Value.slice ba D.bs.length bc).ownBlock=some k\/k=g) {D with ps:=D.ps++[(i,b)]} ba (some ⟨g,0,none⟩) bc d/\
  (∀k,(k=bd\/(Value.slice ba D.bs.length bc).ownBlock=some k\/k=g)->S k\/w.heap.size<=k)/\za S w (c.setCell ⟨bd,1,none⟩ (.slice (some ⟨g,0,none⟩) (D.ps.length+1) d)):=by
 have u:=h.lt bd h.bdS
 have t:g≠bd:=by
  rcases m with e|e;.exact λf=>h.ap2 (by rw [e,f])
  .omega
 have s:za (λk=>(Value.slice pa D.ps.length pc).ownBlock=some k) (w.alloc v).drew c:=za.grown o (λk a=>a);have a:za (λk=>(Value.slice pa D.ps.length pc).ownBlock=some k) w c:=((za.alloc _ w v).trans (za.drew _ _) iL).trans s iL;have j:=za.setCell (S:=λk=>k=bd) c ⟨bd,1,none⟩ (.slice (some ⟨g,0,none⟩) (D.ps.length+1) d) rfl;have r:(D.ps++[(i,b)]).length=D.ps.length+1:=by simp
 have n:=a.owns h.rows (λk a e=>h.ap3 k a e);refine⟨⟨⟨h.ok.bs,?_,h.ok.few⟩,?_,?_,?_,?_,h.ap1,?_,?_⟩,?_,?_⟩
 .intro p l;rcases ah.1 l with l|l;.exact h.ok.ps p l
  .rw [az.1 l];exact⟨y,x⟩
 .simp only [r];have e:c.heap[bd]? =_:=(a.block bd u (λe=>h.ap2 e)).trans h.head;rw [heap_setCell_same c bd 1 _ _ _ e];rfl
 .exact j.owns n (λk a e=>h.ap1 (by rw [a,e]))
 .simp only [r];have:=j.owns q (λk a e=>by simp [Value.ownBlock] at a;omega);simpa [zN] using this
 .intro k;simp only [r];simp [Value.ownBlock,my]
 .simp [Value.ownBlock];exact t
 .intro k a;simp [Value.ownBlock];intro e;rcases m with f|f;.exact h.ap3 k a (by rw [f,e])
  .have:=(h.rows.lt k a).2;omega
 .intro k a;rcases a with rfl|a|rfl;.exact .inl h.bdS
  .exact .inl ((h.own k).2 (.inr (.inl a)))
  .rcases m with f|f;.exact .inl ((h.own k).2 (.inr (.inr f)))
   .right;omega
 .refine(a.mono (λk a=>(h.own k).2 (.inr (.inr a)))).trans j (λk a=>.inl (by rw [a];exact h.bdS))
theorem K9(w:World)(bd:Nat)(S:Nat->Prop)(D:Dk)(ba pa:Option Addr)(bc pc:Nat)(h:zo w bd S D ba pa bc pc)(i:Nat)(I:i<D.bs.length)(b:List Value)(F:zT b)
 (C:zD D.fuse) (E:(D.fuse==0)=false) (Q:D.ps.length<=68719476736):
 Calls Tryz.prog 146 #[.pointer (some ⟨bd,0,none⟩),.int .i64 i,.agg b.toArray] w λe w'=>
  e=.returned (.bool true)/\(∃S',zg w' bd S' {D with ps:=D.ps++[(i,b)],fuse:=qx D.fuse}/\∀k,S' k->S k\/w.heap.size<=k)/\za S w w':=by
 obtain⟨o,t⟩:=F;have M:=h.c0;have L:(i:Int)<(D.bs.length:Int):=by omega
 have T:=h.lt bd h.bdS;have K:Hid (zo (w.alloc (.cells b.toArray 131)) bd S D ba pa bc pc):=h.kept (za.alloc (λ_=>False) _ _) nF;clear h;go_enter Tryz.func146,Tryz.ntmps146;go_wp2_with (go_at_call 65;refine(uu _ bd S D ba pa bc pc K C).mono ?_;rintro e c ⟨rfl,a,f⟩;change Hid _ at a f);have U:=a.c1;have R:=a.fz 1;have G:=a.lt bd a.bdS
 have A:Hid (c.heap[w.heap.size]? =some (.cells b.toArray 131 (0,0))):=by show c.heap[w.heap.size]? =_;rw [f.block w.heap.size (by simp) (by omega)];exact ac w _
 have O:(K5 (.pointer (some ⟨w.heap.size,0,none⟩))).run Tryz.prog c.drew=.ok (.agg b.toArray) c.drew:=JS _ _ _ b (zR (w:=c.drew) A) o;obtain⟨n,u,p,r,s⟩:=eZ Tryz.infoWrite;have j:Hid (Tryz.prog.info? 133=some n/\n.zero=some (.agg yu.toArray)/\n.size=129/\n.bytes=136):=⟨u,p,r,s⟩;clear u p r s;have v:Hid (((c.alloc (.cells (.int .i64 (i:Int)::b).toArray 133)).drew).ownsRow 0 133 129 (.slice pa D.ps.length pc) D.ps.length (D.ps.map zN).flatten):=a.pend.alloc _
 go_region_law ((refine step_append_lies _ rfl (.tmp 27) (.tmp 31) 116 rfl 0 133 n _ 129 136 Tryz.underlying116 j.1 j.2.1 j.2.2.1 j.2.2.2 (congrArg (· +1) zH.1) (by omega) (.slice pa D.ps.length pc) D.ps.length _ (by rfl) v ⟨c.heap.size,0,none⟩ 1 1 (.int .i64 (i:Int)::b) (by rfl) (by simp [o]) (World.news_of_block (w:=(c.alloc (.cells (.int .i64 (i:Int)::b).toArray 133)).drew) (ac c _)) (aQ.2 ⟨rfl,t⟩) (by omega) (by unfold maxLen;omega) (by omega) (aj _) (c.heap.size+1) (by simp) ?_;intro g z B l d q J;have x:Hid _:=zo.pushed a _ i I b ⟨o,t⟩ g z l d q;have N:B.cell? ⟨bd,1,none⟩=some (.slice pa D.ps.length pc):=(d.cell_far ⟨bd,1,none⟩ (by simp;omega) (λe=>a.ap2 e.symm)).trans (by simpa using a.kept (za.alloc (λ_=>False) c _) nF |>.c1);have P:B.frozen? ⟨bd,1,none⟩=false:=(d.frozen_far ⟨bd,1,none⟩ (by simp;omega) (λe=>a.ap2 e.symm)).trans (by simpa using a.kept (za.alloc (λ_=>False) c _) nF |>.fz 1);clear l d q))
 all_goals
  go_wp2;go_ret;refine⟨rfl,⟨_,⟨_,_,_,_,x.1⟩,λk m=>?_⟩,?_⟩
  .have H:=f.size;simp at H;rcases x.2.1 k m with y|y;.exact .inl y
   .right;omega
  .exact(((za.alloc (λk=>k=bd) w _).trans f iL).mono (λk m=>by rw [m];exact a.bdS)).trans x.2.2 (λk m=>.inl m)
theorem Y3(w:World)(bd:Nat)(S:Nat->Prop)(D:Dk)(ba pa:Option Addr)(bc pc:Nat)(h:zo w bd S D ba pa bc pc)(i:Nat)(t:i<D.bs.length)(b:List Value)
 (l:zD D.fuse) (c:(D.fuse==0)=true):
 Calls Tryz.prog 146 #[.pointer (some ⟨bd,0,none⟩),.int .i64 i,.agg b.toArray] w λe w'=>
  e=.returned (.bool false)/\zg w' bd S D/\za S w w':=by
 have q:=h.c0;have p:(i:Int)<(D.bs.length:Int):=by omega
 have r:=h.lt bd h.bdS;have n:Hid (zo (w.alloc (.cells b.toArray 131)) bd S D ba pa bc pc):=h.kept (za.alloc (λ_=>False) _ _) nF;have g:D.fuse=0:=by simpa using c
 have j:Hid (D.fuse=0):=g;clear g;clear h;go_enter Tryz.func146,Tryz.ntmps146;go_wp2_with (go_at_call 65;refine(uu _ bd S D ba pa bc pc n l).mono ?_;rintro e s ⟨rfl,a,d⟩;change Hid _ at a d);go_ret;refine⟨rfl,⟨ba,pa,bc,pc,?_⟩,((za.alloc (λk=>k=bd) w _).trans d iL).mono (λk o=>by rw [o];exact a.bdS)⟩;have f:=a.out;rw [j.out] at f
 have m:({D with fuse:=qx 0}:Dk)=D:=by have:=j.out;cases D;simp only at this;subst this;rfl
 rw [m] at f;exact f
theorem JU(w:World)(bd:Nat)(S:Nat->Prop)(D:Dk)(ba pa:Option Addr)(bc pc:Nat)(h:zo w bd S D ba pa bc pc)(a:Int)(f:zD a)(c:a<0\/D.bs.length<=a)(b:List Value):
 Calls Tryz.prog 146 #[.pointer (some ⟨bd,0,none⟩),.int .i64 a,.agg b.toArray] w λe w'=>
  e=.returned (.bool false)/\zg w' bd S D/\za S w w':=by
 have i:=h.c0;have k:=h.lt bd h.bdS;have d:Hid (zo (w.alloc (.cells b.toArray 131)) bd S D ba pa bc pc):=h.kept (za.alloc (λ_=>False) _ _) nF;obtain⟨g,j⟩:=f;clear h;rcases c with c|c
 all_goals
  go_enter Tryz.func146,Tryz.ntmps146;go_wp2;go_ret;exact⟨rfl,⟨_,_,_,_,d⟩,za.alloc _ _ _⟩
def Dk.write(D:Dk)(a:Int)(b:List Value):Dk:=if 0<=a/\a<D.bs.length/\D.fuse≠0 then {D with ps:=D.ps++[(a.toNat,b)],fuse:=qx D.fuse} else D
def Dk.writes(D:Dk)(a:Int):Bool:=decide (0<=a/\a<D.bs.length/\D.fuse≠0)
theorem yX(w:World)(bd:Nat)(S:Nat->Prop)(D:Dk)(h:zg w bd S D)(a:Int)(p:zD a)(b:List Value)(n:zT b)(d:zD D.fuse)(m:D.ps.length<=68719476736):
 Calls Tryz.prog 146 #[.pointer (some ⟨bd,0,none⟩),.int .i64 a,.agg b.toArray] w λe w'=>
  e=.returned (.bool (D.writes a))/\(∃S',zg w' bd S' (D.write a b)/\∀k,S' k->S k\/w.heap.size<=k)/\za S w w':=by
 obtain⟨ba,pa,bc,pc,h⟩:=h;by_cases o:a<0\/D.bs.length<=a
 .have c:¬(0<=a/\a<D.bs.length/\D.fuse≠0):=by omega
  rw [show D.writes a=false from decide_eq_false c,show D.write a b=D from aw c];exact(JU w bd S D ba pa bc pc h a p o b).mono λe w' ⟨j,h2,f⟩=>⟨j,⟨S,h2,λk g=>.inl g⟩,f⟩
 .obtain⟨i,rfl⟩:∃i:Nat,a=i:=⟨a.toNat,by omega⟩;by_cases l:D.fuse=0
  .have c:¬(0<=(i:Int)/\(i:Int)<D.bs.length/\D.fuse≠0):=by omega
   rw [show D.writes i=false from decide_eq_false c,show D.write i b=D from aw c];exact(Y3 w bd S D ba pa bc pc h i (by omega) b d (by simpa using l)).mono λe w' ⟨j,h2,f⟩=>⟨j,⟨S,h2,λk g=>.inl g⟩,f⟩
  .have c:0<=(i:Int)/\(i:Int)<D.bs.length/\D.fuse≠0:=by omega
   rw [show D.writes i=true from aJ c,show D.write i b={D with ps:=D.ps++[(i,b)],fuse:=qx D.fuse} from by unfold Dk.write;rw [aB c];simp];exact K9 w bd S D ba pa bc pc h i (by omega) b n d (by simpa using l) m
end disk
namespace disk
open Go.RowKit
variable {w wr:World}{bd g bc pc:Nat}{S:Nat->Prop}{D:Dk}{pa ba:Option Addr}
def zn(bs:List (List Value))(ps:List (Nat×List Value)):List (List Value):=ps.foldl (λbs p=>bs.set p.1 p.2) bs
theorem zC(ps:List (Nat×List Value)):∀bs,(zn bs ps).length=bs.length:=by
 induction ps with
 |nil=>intro bs;rfl
 |cons p ps a=>intro bs;unfold zn;rw [lM];exact(a _).trans (by simp)
theorem Qo(bs:List (List Value))(ps:List (Nat×List Value))(k:Nat)(a:k<ps.length):zn bs (ps.take (k+1))=(zn bs (ps.take k)).set ps[k].1 ps[k].2:=by
 unfold zn;rw [ao a,lW];rfl
theorem zo.setb(h:zo w bd S D (some ⟨g,0,none⟩) pa bc pc)(i:Nat)(o:i<D.bs.length)(b:List Value)(j:zT b):
 zo (w.setCells g (i*128) b) bd S {D with bs:=D.bs.set i b} (some ⟨g,0,none⟩) pa bc pc:=by
 have a:(D.bs.set i b).length=D.bs.length:=by simp
 have n:g≠bd:=λe=>h.ap1 (by rw [e];rfl);have d:=za.setCells (S:=λk=>k=g) g rfl b (i*128) w;refine⟨⟨?_,?_,by simpa using h.ok.few⟩,?_,?_,?_,?_,?_,?_,?_⟩
 .intro m c;rcases il c with c|rfl;.exact h.ok.bs m c
  .exact j
 .intro p l;simpa using h.ok.ps p l
 .simp only [a];rw [d.block bd (h.lt bd h.bdS) (λe=>n e.symm)];exact h.head
 .simp only [a];exact dq h.rows (λm c=>(h.ok.bs m c).1) i o b j.1
 .exact d.owns h.pend (λk f e=>h.ap3 k (by rw [e];rfl) f)
 .simp only [a];exact h.own
 .simp only [a];exact h.ap1
 .exact h.ap2
 .simp only [a];exact h.ap3
theorem zo.bthere(h:zo w bd S D (some ⟨g,0,none⟩) pa bc pc)(i:Nat)(c:i<D.bs.length):w.there g (i*128) 128:=
 dp h.rows (λb a=>(h.ok.bs b a).1) i c
theorem zo.nopend(h:zo w bd S D ba pa bc pc):
 zo (w.setCell ⟨bd,1,none⟩ (.slice none 0 0)) bd (λk=>k=bd\/(Value.slice ba D.bs.length bc).ownBlock=some k) {D with ps:=[]} ba none bc 0:=by
 have c:=za.setCell (S:=λk=>k=bd) w ⟨bd,1,none⟩ (.slice none 0 0) rfl;refine⟨⟨h.ok.bs,λp b=>(by cases b),h.ok.few⟩,?_,c.owns h.rows (λk a e=>h.ap1 (by rw [a,e])),aV _ _ _ _,?_,h.ap1,by simp [Value.ownBlock],λk _=>by simp [Value.ownBlock]⟩;.rw [heap_setCell_same w bd 1 _ _ _ h.head];rfl
 .intro k;simp [Value.ownBlock]
structure js (w wr:World) (bd:Nat) (S:Nat->Prop) (D:Dk) (ba pa:Option Addr) (bc pc:Nat):Prop where
 disk:zo wr bd S D ba pa bc pc
 kept:za S w wr
theorem js.alloc(h:js w wr bd S D ba pa bc pc)(a:Obj):js w (wr.alloc a) bd S D ba pa bc pc:=
 ⟨h.disk.kept (za.alloc (λ_=>False) wr a) nF,h.kept.trans (za.alloc S wr a) iL⟩
theorem js.drew(h:js w wr bd S D ba pa bc pc):js w wr.drew bd S D ba pa bc pc:=
 ⟨h.disk.kept (za.drew (λ_=>False) wr) nF,h.kept.trans (za.drew S wr) iL⟩
theorem js.setb(h:js w wr bd S D (some ⟨g,0,none⟩) pa bc pc)(i:Nat)(c:i<D.bs.length)(b:List Value)(a:zT b):
 js w (wr.setCells g (i*128) b) bd S {D with bs:=D.bs.set i b} (some ⟨g,0,none⟩) pa bc pc:=
 ⟨h.disk.setb i c b a,h.kept.trans (za.setCells (S:=S) g ((h.disk.own g).2 (.inr (.inl rfl))) b (i*128) wr) iL⟩
end disk
namespace disk
open Go.ChangeShapes Go.WideShapes Go.ChangeAt Go.RowKit
attribute [local go_sem ↓] Go.wp_at_zero Go.wp_at_succ
theorem kE(w:World)(bd:Nat)(S:Nat->Prop)(D:Dk)(ba pa:Option Addr)(bc pc:Nat)(h:zo w bd S D ba pa bc pc)(B:zD D.fuse)(H:(D.fuse==0)=false):
 Calls Tryz.prog 40 #[.pointer (some ⟨bd,0,none⟩)] w λe w'=>
  e=.returned (.bool true)/\(∃S',zg w' bd S' {D with bs:=zn D.bs D.ps,ps:=[],fuse:=qx D.fuse}/\∀k,S' k->S k)/\za S w w':=by
 obtain⟨o,v,Y⟩:∃o:List Value,o=yu/\∀w,(zeroValue 133).run Tryz.prog w=.ok (.agg o.toArray) w:=⟨yu,rfl,zY Tryz.infoWrite⟩;have E:Hid (o.length=129):=by rw [v];exact congrArg (· +1) zH.1
 clear v;have ab:=h.len;have j:Hid _:=h;have p:Hid _:=zZ Tryz.infoWrite;clear h;go_enter Tryz.func40,Tryz.ntmps40;go_wp2_with (go_at_call 65;refine(uu _ bd S D ba pa bc pc j.out B).mono ?_;rintro e I ⟨rfl,n,r⟩;have s:=n.c1;change Hid _ at n r);have F:Hid (js w I bd S {D with fuse:=qx D.fuse} ba pa bc pc):=⟨n.out,r.mono (λk A=>by rw [A];exact n.bdS)⟩;clear s;go_loopw [13] (λt wr=>∃k:Nat,k<=D.ps.length/\t=.int .i64 k/\js w wr bd S {D with bs:=zn D.bs (D.ps.take k),fuse:=qx D.fuse} ba pa bc pc) (λt _=>D.ps.length-(intOf t).toNat)
 case atStart=>exact⟨0,aj _,rfl,F.out⟩
 case round=>
  obtain⟨k,A,rfl,a⟩:=hrel;change Hid _ at a;by_cases f:k<D.ps.length
  .obtain⟨J,rfl⟩:=j.prow (by omega);have m:Hid (D.ps[k].1<D.bs.length):=(j.ok.ps _ (ai f)).1;obtain⟨g,rfl⟩:=j.row (by have:=m.out;omega);have O:Hid _:=a.disk.prange k f;have d:Hid (zT D.ps[k].2):=(j.ok.ps _ (ai f)).2;have G:Hid _:=Qo D.bs D.ps k f;generalize K:D.ps[k]=q at*;obtain⟨b,c⟩:=q;clear K;have x:Hid (js w (wr.alloc (.cells (.int .i64 (b:Int)::c).toArray 133)) bd S {D with bs:=zn D.bs (D.ps.take k),fuse:=qx D.fuse} (some ⟨g,0,none⟩) (some ⟨J,0,none⟩) bc pc):=a.alloc _;have l:(zn D.bs (D.ps.take k)).length=D.bs.length:=zC _ _;have V:(wr.alloc (.cells (.int .i64 (b:Int)::c).toArray 133)).cell? ⟨bd,0,none⟩=some (.slice (some ⟨g,0,none⟩) D.bs.length bc):=by rw [<-l];exact x.disk.c0
   have X:=x.disk.bthere b (by show b<(zn D.bs (D.ps.take k)).length;rw [l];exact m.out);have N:bd≠g:=λe=>j.ap1 (by rw [<-e];rfl);have af:=a.disk.lt g ((a.disk.own g).2 (.inr (.inl rfl)));have T:=a.disk.lt bd a.disk.bdS;have M:wr.heap.size≠g:=by omega
   change Hid _ at l;have P:(k:Int)<(D.ps.length:Int):=by omega
   have Z:(0:Int)<=(b:Int):=by omega
   have R:(b:Int)<(D.bs.length:Int):=by have:=m.out;simp only at this;omega
   have W:(wr.alloc (.cells (.int .i64 (b:Int)::c).toArray 133)).cell? ⟨wr.heap.size,0,none⟩=some (.int .i64 (b:Int)):=by simp
   have U:(wr.alloc (.cells (.int .i64 (b:Int)::c).toArray 133)).rangeAt wr.heap.size 1 c:=qZ (ac wr _);have ag:=Tryz.underlying131;have u:=d.1;have C:=d.2;have aa:(Tryz.prog.info? 131).map (·.size)=some c.length:=by rw [u];exact zZ Tryz.infoBlock
   go_wp2_with (first
    |(refine wpList_load_mid rfl 133 (.tmp 15) rfl _ _ rfl (.int .i64 (b:Int)::c) _ O.out Tryz.underlying133 rfl (by rw [ae,d.1];exact p.out) ?_)
    |(refine zi rfl 133 (.tmp 4) (.tmp 16) rfl _ _ (.int .i64 (b:Int)::c) rfl rfl rfl (by rw [ae,d.1];exact p.out) (by rw [ae,d.1];simpa using E.out) (aQ.2 ⟨rfl,d.2⟩) ?_))
   generalize (wr.alloc (.cells (.int .i64 (b:Int)::c).toArray 133))=ah at*
   go_region_held3 (λw'=>w'.cell? ⟨bd,0,none⟩=some (.slice (some ⟨g,0,none⟩) D.bs.length bc)/\w'.cell? ⟨wr.heap.size,0,none⟩=some (.int .i64 (b:Int))/\w'.rangeAt wr.heap.size 1 c/\w'.there g (b*128) 128)
    ((go_split_ands;simp only [World.rangeAt_drew,World.there_drew,World.cell?_drew] at *; refine⟨?_,?_,?_,?_⟩<;>first|assumption|(rw [World.cell?_setCells_out _ _ _ _ _ (by intro L _;simp at L;omega)];assumption)|(refine World.rangeAt_setCells_apart (by assumption) _ _ _ (by omega))|(apply World.there_setCells;assumption)))
    (fail)
   go_wp2;go_roundw
   case rel=>exact⟨k+1,by omega,by go_num,by rw [G.out];exact x.drew.setb b (by show b<(zn D.bs (D.ps.take k)).length;rw [l.out];exact m.out) c ⟨u,C⟩⟩
   case measure=>simp [intOf];omega
  .have Q:¬(k:Int)<(D.ps.length:Int):=by omega
   have s:=a.disk.c1;have ad:=a.disk.fz 1;go_wp2;go_ret;have z:=a.disk.nopend;rw [show D.ps.take k=D.ps from an (by omega)] at z;refine⟨rfl,⟨_,⟨ba,none,bc,0,z⟩,λi y=>?_⟩,a.kept.trans (za.setCell (S:=S) wr ⟨bd,1,none⟩ _ j.bdS) iL⟩;rcases y with rfl|y;.exact j.bdS
   .refine(a.disk.own i).2 (.inr (.inl ?_));rw [<-y];cases ba<;>rfl
theorem Y4(w:World)(bd:Nat)(S:Nat->Prop)(D:Dk)(ba pa:Option Addr)(bc pc:Nat)(h:zo w bd S D ba pa bc pc)(g:zD D.fuse)(b:(D.fuse==0)=true):
 Calls Tryz.prog 40 #[.pointer (some ⟨bd,0,none⟩)] w λe w'=>e=.returned (.bool false)/\zg w' bd S D/\za S w w':=by
 have f:D.fuse=0:=by simpa using b
 change Hid _ at h f;go_enter Tryz.func40,Tryz.ntmps40;go_wp2_with (go_at_call 65;refine(uu _ bd S D ba pa bc pc h g).mono ?_;rintro e l ⟨rfl,a,c⟩;change Hid _ at a c);go_ret;refine⟨rfl,⟨ba,pa,bc,pc,?_⟩,c.mono (λk j=>by rw [j];exact a.bdS)⟩;have d:=a.out;rw [f.out] at d
 have i:({D with fuse:=qx 0}:Dk)=D:=by have:=f.out;cases D;simp only at this;subst this;rfl
 rw [i] at d;exact d
def Dk.flush(D:Dk):Dk:=if D.fuse=0 then D else {D with bs:=zn D.bs D.ps,ps:=[],fuse:=qx D.fuse}
theorem yY(w:World)(bd:Nat)(S:Nat->Prop)(D:Dk)(h:zg w bd S D)(b:zD D.fuse):
 Calls Tryz.prog 40 #[.pointer (some ⟨bd,0,none⟩)] w λe w'=>
  e=.returned (.bool (!(D.fuse==0)))/\(∃S',zg w' bd S' D.flush/\∀k,S' k->S k)/\za S w w':=by
 obtain⟨ba,pa,bc,pc,h⟩:=h;by_cases a:D.fuse=0
 .rw [show (D.fuse==0)=true by simpa using a,show D.flush=D from aB a];exact(Y4 w bd S D ba pa bc pc h b (by simpa using a)).mono λe w' ⟨f,h2,c⟩=>⟨f,⟨S,h2,λ_ d=>d⟩,c⟩
 .rw [show (D.fuse==0)=false by simpa using a,show D.flush={D with bs:=zn D.bs D.ps,ps:=[],fuse:=qx D.fuse} from aw a];exact kE w bd S D ba pa bc pc h b (by simpa using a)
def sel:List (Nat×List Value)->List Bool->List (Nat×List Value)
 |[],_=>[]
 |p::ps,ks=>if ks.headD false then p::sel ps ks.tail else sel ps ks.tail
theorem Qp:∀(ps:List (Nat×List Value)) (ks:List Bool) (k:Nat) (a:k<ps.length),sel (ps.take (k+1)) ks=sel (ps.take k) ks++if ks.getD k false then [ps[k]] else []
 |[],_,_,a=>by simp at a
 |p::ps,ks,0,_=>by simp only [eT,iz,mn,sel,aK,List.getElem_cons_zero];cases ks<;>rfl
 |p::ps,ks,k+1,a=>by
  have b:=Qp ps ks.tail k (by simpa using a);have e:ks.tail.getD k false=ks.getD (k+1) false:=by cases ks<;>simp
  simp only [iz,sel,List.getElem_cons_succ];rw [b,e];split<;>simp
theorem dg:∀(ps:List (Nat×List Value)) (ks:List Bool) p,p∈sel ps ks->p∈ps
 |[],_,p,h=>by simp [sel] at h
 |q::ps,ks,p,h=>by
  unfold sel at h;split at h
  .rcases ar.1 h with rfl|h;.exact al ..
   .exact am _ (dg ps _ p h)
  .exact am _ (dg ps _ p h)
theorem ce(bs:List (List Value))(ps a:List (Nat×List Value)):zn bs (ps++a)=zn (zn bs ps) a:=by unfold zn;rw [lW]
theorem dh(w:World)(bd:Nat)(S:Nat->Prop)(D:Dk)(ba pa:Option Addr)(bc pc:Nat)(h:zo w bd S D ba pa bc pc)(O:Option Addr)(ks:List Bool)(Y:Nat)(al:ks.length<=9223372036854775807)
 (I:∀j,j<ks.length->∃y B,O=some ⟨y,B,none⟩/\¬S y/\y<w.heap.size/\w.cell? ⟨y,B+j,none⟩=some (.bool (ks.getD j false))):
 Calls Tryz.prog 41 #[.pointer (some ⟨bd,0,none⟩),.slice O ks.length Y] w λe w'=>
  e=.returned (.tuple #[])/\(∃S',zg w' bd S' {D with bs:=zn D.bs (sel D.ps ks),ps:=[],fuse:= -1}/\∀k,S' k->S k)/\za S w w':=by
 obtain⟨C,G,ap⟩:∃C:List Value,C=yu/\∀w,(zeroValue 133).run Tryz.prog w=.ok (.agg C.toArray) w:=⟨yu,rfl,zY Tryz.infoWrite⟩;have z:Hid (C.length=129):=by rw [G];exact congrArg (· +1) zH.1
 clear G;have au:=h.len;have r:Hid _:=h;have m:Hid _:=zZ Tryz.infoWrite;have K:=h.c1;have R:Hid (js w w bd S D ba pa bc pc):=⟨h,za.refl S w⟩;change Hid _ at I;clear h;go_enter Tryz.func41,Tryz.ntmps41;go_wp2;clear K;go_loopw [11] (λt wr=>∃k:Nat,k<=D.ps.length/\t=.int .i64 k/\js w wr bd S {D with bs:=zn D.bs (sel (D.ps.take k) ks)} ba pa bc pc) (λt _=>D.ps.length-(intOf t).toNat)
 case atStart=>exact⟨0,aj _,rfl,R.out⟩
 case round=>
  obtain⟨k,ay,rfl,b⟩:=hrel;change Hid _ at b;by_cases o:k<D.ps.length
  .obtain⟨U,rfl⟩:=r.prow (by omega);have u:Hid (D.ps[k].1<D.bs.length):=(r.ok.ps _ (ai o)).1;obtain⟨g,rfl⟩:=r.row (by have:=u.out;omega);have L:Hid _:=b.disk.prange k o;have d:Hid (zT D.ps[k].2):=(r.ok.ps _ (ai o)).2;have A:Hid _:=Qp D.ps ks k o;generalize V:D.ps[k]=q at*;obtain⟨c,f⟩:=q;clear V;have x:Hid (js w (wr.alloc (.cells (.int .i64 (c:Int)::f).toArray 133)) bd S {D with bs:=zn D.bs (sel (D.ps.take k) ks)} (some ⟨g,0,none⟩) (some ⟨U,0,none⟩) bc pc):=b.alloc _;have F:=d.1;have P:=d.2;have T:(k:Int)<(D.ps.length:Int):=by omega
   by_cases E:k<ks.length
   .have N:(k:Int)<(ks.length:Int):=by omega
    obtain⟨y,B,rfl,J,H,v⟩:=I.out k E;have l:=(x.kept.cell (a:=⟨y,B+k,none⟩) H J).trans v;change Hid _ at J;clear v H;cases n:ks.getD k false
    .rw [n] at l
     have p:Hid (sel (D.ps.take (k+1)) ks=sel (D.ps.take k) ks):=by show sel (D.ps.take (k+1)) ks=sel (D.ps.take k) ks;rw [A.out,n];simp
     clear n
     go_wp2_with (first
      |(refine wpList_load_mid rfl 133 (.tmp 14) rfl _ _ rfl (.int .i64 (c:Int)::f) _ L.out Tryz.underlying133 rfl (by rw [ae,d.1];exact m.out) ?_)
      |(refine zi rfl 133 (.tmp 5) (.tmp 15) rfl _ _ (.int .i64 (c:Int)::f) rfl rfl rfl (by rw [ae,d.1];exact m.out) (by rw [ae,d.1];simpa using z.out) (aQ.2 ⟨rfl,d.2⟩) ?_))
     go_roundw
     case rel=>exact⟨k+1,by omega,by go_num,by rw [p.out];exact x.out⟩
     case measure=>simp [intOf];omega
    .rw [n] at l
     have p:Hid (zn D.bs (sel (D.ps.take (k+1)) ks)=(zn D.bs (sel (D.ps.take k) ks)).set c f):=by show zn D.bs (sel (D.ps.take (k+1)) ks)=(zn D.bs (sel (D.ps.take k) ks)).set c f;rw [A.out,n,ce];rfl
     clear n;have s:(zn D.bs (sel (D.ps.take k) ks)).length=D.bs.length:=zC _ _;have ad:(wr.alloc (.cells (.int .i64 (c:Int)::f).toArray 133)).cell? ⟨bd,0,none⟩=some (.slice (some ⟨g,0,none⟩) D.bs.length bc):=by rw [<-s];exact x.disk.c0
     have ao:=x.disk.bthere c (by show c<(zn D.bs (sel (D.ps.take k) ks)).length;rw [s];exact u.out);have Z:bd≠g:=λe=>r.ap1 (by rw [<-e];rfl);have ag:=b.disk.lt g ((b.disk.own g).2 (.inr (.inl rfl)));have aa:=b.disk.lt bd b.disk.bdS;have X:wr.heap.size≠g:=by omega
     change Hid _ at s;have aq:(0:Int)<=(c:Int):=by omega
     have ak:(c:Int)<(D.bs.length:Int):=by have:=u.out;simp only at this;omega
     have am:(wr.alloc (.cells (.int .i64 (c:Int)::f).toArray 133)).cell? ⟨wr.heap.size,0,none⟩=some (.int .i64 (c:Int)):=by simp
     have ab:(wr.alloc (.cells (.int .i64 (c:Int)::f).toArray 133)).rangeAt wr.heap.size 1 f:=qZ (ac wr _);have ax:=Tryz.underlying131;have af:(Tryz.prog.info? 131).map (·.size)=some f.length:=by rw [F];exact zZ Tryz.infoBlock
     go_wp2_with (first
      |(refine wpList_load_mid rfl 133 (.tmp 14) rfl _ _ rfl (.int .i64 (c:Int)::f) _ L.out Tryz.underlying133 rfl (by rw [ae,d.1];exact m.out) ?_)
      |(refine zi rfl 133 (.tmp 5) (.tmp 15) rfl _ _ (.int .i64 (c:Int)::f) rfl rfl rfl (by rw [ae,d.1];exact m.out) (by rw [ae,d.1];simpa using z.out) (aQ.2 ⟨rfl,d.2⟩) ?_))
     generalize (wr.alloc (.cells (.int .i64 (c:Int)::f).toArray 133))=az at*;clear l
     go_region_held3 (λw'=>w'.cell? ⟨bd,0,none⟩=some (.slice (some ⟨g,0,none⟩) D.bs.length bc)/\w'.cell? ⟨wr.heap.size,0,none⟩=some (.int .i64 (c:Int))/\w'.rangeAt wr.heap.size 1 f/\w'.there g (c*128) 128)
      ((go_split_ands;simp only [World.rangeAt_drew,World.there_drew,World.cell?_drew] at *; refine⟨?_,?_,?_,?_⟩<;>first|assumption|(rw [World.cell?_setCells_out _ _ _ _ _ (by intro W _;simp at W;omega)];assumption)|(refine World.rangeAt_setCells_apart (by assumption) _ _ _ (by omega))|(apply World.there_setCells;assumption)))
      (fail)
     go_wp2;go_roundw
     case rel=>exact⟨k+1,by omega,by go_num,by rw [p.out];exact x.drew.setb c (by show c<(zn D.bs (sel (D.ps.take k) ks)).length;rw [s.out];exact u.out) f ⟨F,P⟩⟩
     case measure=>simp [intOf];omega
   .have N:¬(k:Int)<(ks.length:Int):=by omega
    have p:Hid (sel (D.ps.take (k+1)) ks=sel (D.ps.take k) ks):=by show sel (D.ps.take (k+1)) ks=sel (D.ps.take k) ks;rw [A.out,show ks.getD k false=false from by simp [mD E]];simp
    go_wp2_with (first
     |(refine wpList_load_mid rfl 133 (.tmp 14) rfl _ _ rfl (.int .i64 (c:Int)::f) _ L.out Tryz.underlying133 rfl (by rw [ae,d.1];exact m.out) ?_)
     |(refine zi rfl 133 (.tmp 5) (.tmp 15) rfl _ _ (.int .i64 (c:Int)::f) rfl rfl rfl (by rw [ae,d.1];exact m.out) (by rw [ae,d.1];simpa using z.out) (aQ.2 ⟨rfl,d.2⟩) ?_))
    go_roundw
    case rel=>exact⟨k+1,by omega,by go_num,by rw [p.out];exact x.out⟩
    case measure=>simp [intOf];omega
  .have ah:¬(k:Int)<(D.ps.length:Int):=by omega
   have K:=b.disk.c1;have aw:=b.disk.fz 1;have ar:=b.disk.c2;have av:=b.disk.fz 2;go_wp2;go_end0;have Q:=b.disk.nopend.set_fuse (-1);rw [show D.ps.take k=D.ps from an (by omega)] at Q;refine⟨rfl,⟨_,⟨ba,none,bc,0,Q⟩,λi M=>?_⟩,(b.kept.trans (za.setCell (S:=S) wr ⟨bd,1,none⟩ _ r.bdS) iL).trans (za.setCell (S:=S) _ ⟨bd,2,none⟩ _ r.bdS) iL⟩;rcases M with rfl|M;.exact r.bdS
   .refine(b.disk.own i).2 (.inr (.inl ?_));rw [<-M];cases ba<;>rfl
end disk
end Go.Proofs.YtcoengihaobddaaGreatDoor

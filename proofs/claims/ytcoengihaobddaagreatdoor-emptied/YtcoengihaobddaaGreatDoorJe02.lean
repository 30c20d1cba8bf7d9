/- Part 2 of 50 of a proof: Blk1, Disk2, Disk3, Disk4, Blk2, Pg3, Blk3, Tr1 -/
import Derived.Test.YtcoengihaobddaaGreatDoorJe01
import Derived.Deep.QuietTactic
import Derived.BigQuiet
import Derived.Laws.MakeOwn
import Derived.Deep.WholeRow
import Derived.Deep.CutRange
set_option maxHeartbeats 8000000
set_option linter.unusedVariables false
set_option linter.unusedSimpArgs false
set_option maxRecDepth 8000
namespace Go.Proofs.YtcoengihaobddaaGreatDoor
namespace prog
open Go.ChangeShapes Go.WideShapes Go.ChangeAt Go.RowKit disk ref
open keys (zg zd zq zl)
variable {w:World}{b:Nat}{t:TypeId}{l:List UInt8}
theorem ck(l:List UInt8)(k:Nat)(h:k<l.length):numOf (l.take (k+1))=numOf (l.take k)*256+l[k].toNat:=by
 rw [ar h,cf]
theorem U3(l:List UInt8):∀k,numOf (l.take k)<=numOf l:=by
 intro k
 induction h:l.length-k generalizing k with
 |zero=>rw [ao (by omega)];exact aC _
 |succ n b=>
  have a:=b (k+1) (by omega);rw [ck l k (by omega)] at a;omega
theorem BJ(q z:Nat)(k:z<256)(h:q*256+z<9223372036854775808):bits BinOp.or IntKind.i64 ((q:Int)*256) (z:Int)=((q*256+z:Nat):Int):=by
 have c:BitVec.ofInt 64 ((q:Int)*256)=BitVec.ofNat 64 (q*256):=by rw [<-BitVec.ofInt_natCast];congr 1
 have j:BitVec.ofInt 64 (z:Int)=BitVec.ofNat 64 z:=BitVec.ofInt_natCast ..
 have d:(q*256)|||z=q*256+z:=by have:=Nat.shiftLeft_add_eq_or_of_lt (i:=8) (b:=z) (by omega) q;rw [Nat.shiftLeft_eq] at this;exact this.symm
 have f:(BitVec.ofNat 64 (q*256)|||BitVec.ofNat 64 z).toNat=q*256+z:=by
  have g:q*256%18446744073709551616=q*256:=by omega
  have e:z%18446744073709551616=z:=by omega
  simp only [BitVec.toNat_or,BitVec.toNat_ofNat,Nat.reducePow];rw [g,e,d]
 have a:bits BinOp.or IntKind.i64 ((q:Int)*256) (z:Int)=IntKind.i64.wrap ((BitVec.ofInt 64 ((q:Int)*256)|||BitVec.ofInt 64 (z:Int)).toNat:Nat):=rfl;rw [a,c,j,f,IntKind.wrap_i64];omega
theorem Jz(w:World)(P:Nat->Prop)(a:Option Addr)(l:List UInt8)(cap:Nat)(h:zu w P a l)(o:l.length<=8)(r:numOf l<9223372036854775808):
 Calls Tryz.prog 83 #[.slice a l.length cap] w λe w'=>e=.returned (.int .i64 (numOf l:Nat))/\w'=w:=by
 change Hid _ at h;go_enter Tryz.func83,Tryz.ntmps83;go_wp2;go_loop [3,8] (λu t=>∃k:Nat,k<=l.length/\t=.int .i64 k/\u=.int .i64 (numOf (l.take k):Nat)) (λ_ t=>l.length-(intOf t).toNat)
 case atStart=>exact⟨0,ai _,rfl,rfl⟩
 case round=>
  obtain⟨k,s,rfl,rfl⟩:=hrel;by_cases c:k<l.length
  .have m:=U3 l (k+1);have d:=ck l k c;have j:Hid _:=d;rw [d] at m;have p:=l[k].toNat_lt;rcases h.out with i|⟨b,v,rfl,_,_,f⟩;.rw [i] at c;simp at c
   .have n:=f k c;generalize numOf (l.take k)=q at*;clear d f;generalize l[k].toNat=z at*;have g:Hid _:=BJ q z (by omega) (by omega);go_wp2;go_round
    case rel=>exact⟨k+1,by omega,by go_num,by rw [j.out,g.out]⟩
    case measure=>simp [intOf];omega
  .have e:k=l.length:=by omega
   subst e;have d:numOf (l.take l.length)=numOf l:=by rw [eX]
   rw [d] at*;go_wp2;go_ret;exact⟨rfl,rfl⟩
structure xh (w:World) (b:Nat) (t:TypeId) (l:List UInt8):Prop where
 at_:w.heap[b]? =some (.cells (l.map qk).toArray t (0,0))
theorem xh.lt(h:xh w b t l):b<w.heap.size:=(lT h.at_)
theorem xh.kept{w':World}{T:Nat->Prop}(h:xh w b t l)(k:Kept T w w')(a:¬T b):xh w' b t l:=⟨(k.block b h.lt a).trans h.at_⟩
theorem xh.cell(h:xh w b t l)(i:Nat)(a:i<l.length):w.cell? ⟨b,i,none⟩=some (.int .u8 (l[i].toNat:Int)):=by
 rw [ak w b i _ _ _ h.at_];simp [a,qk]
theorem xh.fz(h:xh w b t l)(i:Nat):w.frozen? ⟨b,i,none⟩=false:=aa w b i _ _ h.at_
theorem xh.set(h:xh w b t l)(i:Nat)(c:UInt8):xh (w.setCell ⟨b,i,none⟩ (.int .u8 (c.toNat:Int))) b t (l.set i c):=by
 refine⟨?_⟩;rw [heap_setCell_same w b i _ _ _ h.at_];congr 2;apply lW;simp [qk]
theorem xh.bytes(h:xh w b t l)(P:Nat->Prop)(d:P b)(a n:Nat)(e:a+n<=l.length):zu w P (some ⟨b,a,none⟩) ((l.drop a).take n):=
 .inr ⟨b,a,rfl,d,h.lt,λj c=>by
  simp only [ay,aU] at c;rw [h.cell (a+j) (by omega)]
  simp⟩
theorem yQ(w:World)(b:Nat)(t:TypeId)(l:List UInt8)(h:xh w b t l)(a k cap n:Nat)(c:a+k<=l.length)(g:k<=8)(f:numOf ((l.drop a).take k)=n)(j:n<9223372036854775808):
 Calls Tryz.prog 83 #[.slice (some ⟨b,a,none⟩) k cap] w λe w'=>e=.returned (.int .i64 n)/\w'=w:=by
 have d:((l.drop a).take k).length=k:=by simp;omega
 have:=Jz w (λi=>i=b) (some ⟨b,a,none⟩) ((l.drop a).take k) cap (h.bytes (λi=>i=b) rfl a k c) (by omega) (by omega);rw [d,f] at this;exact this
theorem fa:∀m n,bytesOf (m+1) n=UInt8.ofNat (n/256^m%256)::bytesOf m n
 |0,n=>by simp [bytesOf]
 |m+1,n=>by rw [bytesOf,fa m (n/256),bytesOf,mw,me,Nat.mul_comm];rfl
theorem Qd(l:List UInt8)(j:Nat)(c:UInt8)(v:List UInt8)(h:j+1+v.length<=l.length):qS l j (c::v)=(qS l (j+1) v).set j c:=by
 have e:(qS l (j+1) v).length=l.length:=j9 _ _ _ h;rw [iw,aB (by omega)];have a:(l.take (j+1)).length=j+1:=by simp;omega
 have d:(qS l (j+1) v).take j=l.take j:=by rw [qS,an,eC (by omega),iJ,eE (by omega)]
 have b:(qS l (j+1) v).drop (j+1)=v++l.drop (j+1+v.length):=by
  rw [qS,an]
  conv=>lhs;arg 1;rw [<-a]
  exact i8
 rw [d,b,qS];simp only [ae,an,a9];rw [show j+(v.length+1)=j+1+v.length from by omega]
theorem BK(q:Nat):((q:Int)%256)=((UInt8.ofNat (q%256)).toNat:Int):=by simp
theorem YT(l:List UInt8)(j:Nat):qS l j []=l:=by simp [qS]
theorem yc(w:World)(b:Nat)(t:TypeId)(l:List UInt8)(h:xh w b t l)(c k cap:Nat)(A:c+k<=l.length)(s:k<=8)(n:Nat)(v:n<9223372036854775808):
 Calls Tryz.prog 138 #[.slice (some ⟨b,c,none⟩) k cap,.int .i64 n] w λe w'=>e=.returned (.tuple #[])/\xh w' b t (qS l c (bytesOf k n))/\Kept (λi=>i=b) w w':=by
 have g:Hid _:=h;clear h;go_enter Tryz.func138,Tryz.ntmps138;go_wp2;go_loopw [1,4] (λy i wr=>∃m:Nat,m<=k/\i=.int .i64 ((k:Int)-1-m)/\y=.int .i64 ((n/256^m:Nat):Int)/\xh wr b t (qS l (c+(k-m)) (bytesOf m n))/\Kept (λi=>i=b) w wr) (λ_ i _=>(intOf i+1).toNat)
 case atStart=>exact⟨0,ai _,by simp,by simp,by simp only [bytesOf,YT];exact g,Kept.refl _ _⟩
 case round=>
  obtain⟨m,x,rfl,rfl,d,a⟩:=hrel;have p:(qS l (c+(k-m)) (bytesOf m n)).length=l.length:=j9 _ _ _ (by rw [zT];omega);change Hid _ at d a;have B:n/256^m<=n:=Nat.div_le_self _ _;by_cases o:m<k
  .have C:=d.cell (c+(k-1-m)) (by omega);have u:=d.fz (c+(k-1-m))
   have f:Hid (qS l (c+(k-(m+1))) (bytesOf (m+1) n)=(qS l (c+(k-m)) (bytesOf m n)).set (c+(k-1-m)) (UInt8.ofNat (n/256^m%256))):=by show _=_;rw [fa,Qd _ _ _ _ (by rw [zT];omega),show c+(k-(m+1))+1=c+(k-m) from by omega,show c+(k-(m+1))=c+(k-1-m) from by omega]
   have j:Hid (n/256^(m+1)=n/256^m/256):=by show _=_;rw [me,mw]
   generalize (qS l (c+(k-m)) (bytesOf m n))[c+(k-1-m)].toNat=z at*;generalize qS l (c+(k-m)) (bytesOf m n)=cur at*;generalize n/256^m=q at*;have r:((k:Int)-1-m).toNat=k-1-m:=by omega
   go_wp2;go_roundw
   case rel=>exact⟨m+1,by omega,by go_num,by rw [j.out];go_num,by rw [f.out,BK];exact d.set _ _,a.trans (Kept.setCell (S:=λi=>i=b) _ ⟨b,_,none⟩ _ rfl) iL⟩
   case measure=>simp [intOf];omega
  .have e:m=k:=by omega
   subst e;generalize n/256^m=q at*;go_wp2;go_end0;exact⟨rfl,by have:=d.out;rw [Nat.sub_self,lS] at this;exact this,a⟩
end prog
namespace disk
open Go.ChangeShapes Go.WideShapes Go.ChangeAt Go.RowKit
def z9:List Value:=List.replicate 128 (.int .u8 0)
theorem Tryz.infoBlock:(Tryz.prog.info? 131).map (λi=>(i.zero,i.size,i.bytes))=some (some (.agg z9.toArray),128,128):=by kernel_rfl
theorem zI:zW z9:=⟨by simp [z9],λv a=>by rw [lz a];rfl⟩
theorem gG:∀n,(List.replicate n z9).flatten=List.replicate (n*128) (Value.int .u8 0)
 |0=>by simp
 |n+1=>by rw [mF,eo,gG n,eS,lf,iU,<-lC];rfl
theorem JA(z:Array Value)(v:Value)(b:0<z.size)(h:∀i (e:i<z.size),z[i]=v)(n:Nat):(madeCells z n).toList=List.replicate n v:=by
 apply mT;.simp [madeCells]
 .intro i d c;have a:i%z.size<z.size:=mQ _ b;simp only [madeCells,mU,ig,Array.getElem_toList,Array.getElem_range,List.getElem_replicate];rw [getElem!_pos z _ a];exact h _ a
theorem JB(n:Nat):(madeCells (Value.agg z9.toArray).cells n).toList=List.replicate n (Value.int .u8 0):=by
 have e:(Value.agg z9.toArray).cells=z9.toArray:=rfl;have a:z9.toArray.size=128:=by rw [aw];exact zI.1
 rw [e];refine JA _ _ (by omega) (λi b=>?_) n;rw [List.getElem_toArray];exact lz (ag _)
def Dk.fresh(n:Nat):Dk:={bs:=List.replicate n z9,ps:=[],fuse:= -1,reads:=0}
def jd(n:Int):Nat:=if n<0\/1000<n then 0 else n.toNat
theorem cn(w:World)(n:Nat)(e:n<=1000):
 zn ((w.alloc (.cells (madeCells (Value.agg z9.toArray).cells (n*128)) 131)).alloc
  (.cells #[.slice (some ⟨w.heap.size,0,none⟩) n n,.slice none 0 0,.int .i64 (-1),.int .i64 0] 118)) (w.heap.size+1) (λk=>k=w.heap.size+1\/k=w.heap.size) (Dk.fresh n) (some ⟨w.heap.size,0,none⟩) none n 0:=by
 have a:(List.replicate n z9).length=n:=by simp
 refine⟨⟨λb d=>by rw [lz d];exact zI,λp c=>(by cases c),by simpa [Dk.fresh] using e⟩,?_,?_,aP _ _ _ _,?_,?_,?_,?_⟩
 .simp only [Dk.fresh,a,ix];exact heap_alloc2_new w _ _
 .simp only [Dk.fresh,a];refine World.ownsRow.alloc ⟨?_,.inr ⟨w.heap.size,n,_,rfl,ai _,heap_alloc_new w _,aC _,by unfold maxLen;omega,by rw [size_madeCells],?_⟩⟩ _;.rw [gG];simp
  .rw [JB,gG,ao (by simp)]
 .intro k;simp [Value.ownBlock,eq_comm]
 .simp [Value.ownBlock]
 .simp [Value.ownBlock]
 .intro k _;simp [Value.ownBlock]
theorem jU(w:World)(n:Int)(s:zs n):
 Calls Tryz.prog 39 #[.int .i64 n] w λe w'=>
  e=.returned (.pointer (some ⟨w.heap.size+1,0,none⟩))/\ze w' (w.heap.size+1) (λk=>k=w.heap.size+1\/k=w.heap.size) (Dk.fresh (jd n))/\Kept (λ_=>False) w w':=by
 obtain⟨r,o,j,l,i⟩:=info_parts Tryz.infoBlock;obtain⟨t,x⟩:=s
 have f:Hid (∀m:Nat,m<=1000->∀g:World,(Instr.makeSlice 115 (.int .i64 m) (.int .i64 m)).run Tryz.prog g=
  .ok (.slice (some ⟨g.heap.size,0,none⟩) m m) (g.alloc (.cells (madeCells (Value.agg z9.toArray).cells (m*128)) 131))):=λm p g=>by
  have:=run_make (P:=Tryz.prog) g 115 131 r _ Tryz.underlying115 o j .i64 .i64 m m (by omega) (by omega) (by rw [i];omega) (by omega);rw [l] at this;simpa using this
 clear o j l i;by_cases d:n<0\/1000<n
 .have h:Hid (jd n=0):=aB d;have b:∀g:World,(Instr.makeSlice 115 (.int .i64 0) (.int .i64 0)).run Tryz.prog g=.ok (.slice (some ⟨g.heap.size,0,none⟩) 0 0) (g.alloc (.cells (madeCells (Value.agg z9.toArray).cells (0*128)) 131)):=f.out 0 (by omega);generalize c:madeCells (Value.agg z9.toArray).cells (0*128)=v at b;have a:Hid (madeCells (Value.agg z9.toArray).cells (0*128)=v):=c;clear c f;by_cases q:n<0
  .clear d;go_enter Tryz.func39,Tryz.ntmps39;go_wp2;go_ret;refine⟨rfl,?_,(Kept.alloc _ _ _).trans (Kept.alloc _ _ _) iL⟩;rw [h.out,<-a.out];exact⟨_,_,_,_,cn w 0 (by omega)⟩
  .have u:1000<n:=by omega
   clear d;go_enter Tryz.func39,Tryz.ntmps39;go_wp2;go_ret;refine⟨rfl,?_,(Kept.alloc _ _ _).trans (Kept.alloc _ _ _) iL⟩;rw [h.out,<-a.out];exact⟨_,_,_,_,cn w 0 (by omega)⟩
 .obtain⟨m,rfl⟩:∃m:Nat,n=m:=⟨n.toNat,by omega⟩;have q:¬(m:Int)<0:=by omega
  have p:m<=1000:=by omega
  have h:Hid (jd (m:Int)=m):=by show jd (m:Int)=m;unfold jd;rw [az d];simp
  have b:=f.out m p;generalize c:madeCells (Value.agg z9.toArray).cells (m*128)=v at b;have a:Hid _:=c;clear c f d;go_enter Tryz.func39,Tryz.ntmps39;go_wp2;go_ret;refine⟨rfl,?_,(Kept.alloc _ _ _).trans (Kept.alloc _ _ _) iL⟩;rw [h.out,<-a.out];exact⟨_,_,_,_,cn w m p⟩
end disk
namespace disk
open Go.ChangeShapes Go.WideShapes Go.ChangeAt Go.RowKit
variable {t:TypeId}{b bd bc pc:Nat}{w wr:World}{S:Nat->Prop}{D:Dk}{ba pa:Option Addr}{Zb cur cs:List Value}
def yN:List Value:=.int .i64 0::z9
theorem Tryz.infoWrite:(Tryz.prog.info? 133).map (λi=>(i.zero,i.size,i.bytes))=some (some (.agg yN.toArray),129,136):=by kernel_rfl
theorem qa{v:Value}{n:Nat}(h:(Tryz.prog.info? t).map (λi=>(i.zero,i.size,i.bytes))=some (some v,n,b)):∀w,(zeroValue t).run Tryz.prog w=.ok v w:=by
 obtain⟨i,a,c,_,_⟩:=info_parts h;intro w;simp [zeroValue,typeInfo,a,c]
theorem qc{v:Value}{n:Nat}(h:(Tryz.prog.info? t).map (λi=>(i.zero,i.size,i.bytes))=some (some v,n,b)):(Tryz.prog.info? t).map (·.size)=some n:=by
 obtain⟨i,c,_,a,_⟩:=info_parts h;simp [c,a]
def jj(i:Nat)(ps:List (Nat×List Value))(b:List Value):List Value:=ps.foldl (λb p=>if p.1=i then p.2 else b) b
def Dk.look(D:Dk)(a:Int):List Value:=if 0<=a/\a<D.bs.length then jj a.toNat D.ps (D.bs.getD a.toNat []) else z9
theorem zn.row(h:zn w bd S D ba pa bc pc)(c:0<D.bs.length):∃g,ba=some ⟨g,0,none⟩:=by
 rcases h.rows.2 with⟨_,b⟩|⟨g,cap,cur,a,_⟩;.omega
 .cases a;exact⟨g,rfl⟩
theorem zn.prow(h:zn w bd S D ba pa bc pc)(c:0<D.ps.length):∃g,pa=some ⟨g,0,none⟩:=by
 rcases h.pend.2 with⟨_,b⟩|⟨g,cap,cur,a,_⟩;.omega
 .cases a;exact⟨g,rfl⟩
theorem zi{P:Program}{d:Array Oper}{rest:List Oper}{op:Oper}{a:Act}{f:World}{Q:Exit->Act->World->Prop}(e:op.guard=none)(b:TypeId)(r q:Operand)(g:op.op=.store b r q)
 (n:Nat) (c:Array Value) (cs:List Value) (l:n=f.heap.size) (k:a.eval r=.pointer (some ⟨n,0,none⟩)) (i:a.eval q=.agg cs.toArray)
 (j:(P.info? b).map (·.size)=some cs.length) (p:c.size=cs.length) (o:∀v∈cs,v.oneCell'=true)
 (h:wpList P d Q rest (a.put op.dst undef) (f.alloc (.cells cs.toArray b))):wpList P d Q (op::rest) a (f.alloc (.cells c b)):=by
 subst l;refine md e λ_ m=>?_;unfold Oper.wp execOp;simp only [g,k,i,run_storeAt_new (P:=P) f b c cs.toArray (by simpa using j) (by simpa using p) (all_oneCell_toArray o),il,eM,iI];exact m _ _ h
structure vn (w wr:World) (bd:Nat) (S:Nat->Prop) (D:Dk) (ba pa:Option Addr) (bc pc:Nat) (Zb cur:List Value):Prop where
 disk:zn wr bd S D ba pa bc pc
 kept:Kept (λk=>k=bd) w wr
 resb:wr.heap[w.heap.size]? =some (.cells Zb.toArray 131 (0,0))
 curb:wr.heap[w.heap.size+1]? =some (.cells cur.toArray 131 (0,0))
theorem vn.lt(h:vn w wr bd S D ba pa bc pc Zb cur):w.heap.size+1<wr.heap.size:=
 (lT h.curb)
theorem vn.alloc(h:vn w wr bd S D ba pa bc pc Zb cur)(a:Obj):vn w (wr.alloc a) bd S D ba pa bc pc Zb cur:=by
 have b:=h.lt;refine⟨h.disk.kept (Kept.alloc (λ_=>False) wr a) nF,h.kept.trans (Kept.alloc _ wr a) iL,?_,?_⟩;.rw [mB wr a _ (by omega)];exact h.resb
 .rw [mB wr a _ b];exact h.curb
theorem vn.set(h:vn w wr bd S D ba pa bc pc Zb cur)(c:∀k,S k->k<w.heap.size)
 (cs:List Value) (b:cur.length=cs.length):vn w (wr.setCells (w.heap.size+1) 0 cs) bd S D ba pa bc pc Zb cs:=by
 refine⟨h.disk.kept (Kept.setCells (S:=λk=>k=w.heap.size+1) _ rfl cs 0 wr) (λk a e=>by have:=c k a;omega),h.kept.trans (Kept.setCells (S:=λk=>k=w.heap.size+1) _ rfl cs 0 wr) (λk a=>.inr (by omega)),?_,?_⟩;.rw [xI _ _ (by omega)];exact h.resb
 .rw [qg _ _ cs 0 wr _ h.curb (by simp;omega)];congr 2;apply lW;simp [b]
theorem vn.done(h:vn w wr bd S D ba pa bc pc Zb cur)(c:∀k,S k->k<w.heap.size)
 (b:Zb.length=cur.length):zn (wr.setCells w.heap.size 0 cur) bd S D ba pa bc pc/\Kept (λk=>k=bd) w (wr.setCells w.heap.size 0 cur)/\
  (wr.setCells w.heap.size 0 cur).heap[w.heap.size]? =some (.cells cur.toArray 131 (0,0)):=by
 refine⟨h.disk.kept (Kept.setCells (S:=λk=>k=w.heap.size) _ rfl cur 0 wr) (λk a e=>by have:=c k a;omega),h.kept.trans (Kept.setCells (S:=λk=>k=w.heap.size) _ rfl cur 0 wr) (λk a=>.inr (by omega)),?_⟩;rw [qg _ _ cur 0 wr _ h.resb (by simp;omega)];congr 2;apply lW;simp [b]
theorem zU(c:w.heap[b]? =some (.cells cs.toArray t (0,0))):w.rangeAt b 0 cs:=λj v a=>by
 rw [ak w b (0+j) _ t (0,0) c];simpa using a
theorem yu(a:w.heap[b]? =some (.cells cs.toArray t (0,0))):w.there b 0 cs.length:=λj c=>
 ⟨(zU a).isSome j c,aa w b _ _ t a⟩
theorem yn{c:Value}(a:w.heap[b]? =some (.cells (c::cs).toArray t (0,0))):w.rangeAt b 1 cs:=λj v d=>by
 rw [ak w b (1+j) _ t (0,0) a,iU];simpa using d
theorem zn.range{g:Nat}(h:zn w bd S D (some ⟨g,0,none⟩) pa bc pc)(i:Nat)(c:i<D.bs.length):w.rangeAt g (i*128) D.bs[i]:=
 q9 h.rows (λb a=>(h.ok.bs b a).1) i c
theorem JC(h:D.Ok):∀b∈D.ps.map zR,b.length=129:=λb c=>by
 obtain⟨p,a,rfl⟩:=av.1 c;have:=(h.ps p a).2.1;simp [zR,this]
theorem zn.prange{g:Nat}(h:zn w bd S D ba (some ⟨g,0,none⟩) bc pc)(i:Nat)(b:i<D.ps.length):w.rangeAt g (i*129) (.int .i64 (D.ps[i].1:Int)::D.ps[i].2):=by
 have a:=h.pend;rw [show D.ps.length=(D.ps.map zR).length from by simp] at a;have:=q9 a (JC h.ok) i (by simpa using b);simpa [zR] using this
theorem YU(i:Nat)(ps:List (Nat×List Value))(b:List Value)(k:Nat)(a:k<ps.length):jj i (ps.take (k+1)) b=if ps[k].1=i then ps[k].2 else jj i (ps.take k) b:=by
 unfold jj;rw [ar a,lN];rfl
theorem Qe{i:Nat}{b:List Value}(a:zW b):∀{ps:List (Nat×List Value)},(∀p∈ps,zW p.2)->zW (jj i ps b):=by
 intro ps
 induction ps generalizing b with
 |nil=>intro _;exact a
 |cons p ps d=>
  intro h;unfold jj;rw [l5];refine d ?_ (λq c=>h q (al _ c));split;.exact h p (am ..)
  .exact a
theorem zn.len(h:zn w bd S D ba pa bc pc):D.ps.length<=9223372036854775807:=by
 rcases h.pend.2 with⟨_,d⟩|⟨g,cap,cur,b,_,_,c,a,_⟩;.omega
 .unfold maxLen at a;omega
theorem DP(w:World)(bd:Nat)(S:Nat->Prop)(D:Dk)(ba pa:Option Addr)(bc pc:Nat)(h:zn w bd S D ba pa bc pc)(i:Nat)(F:i<D.bs.length)(ab:0<=D.reads)(ac:D.reads<=4611686018427387904):
 Calls Tryz.prog 81 #[.pointer (some ⟨bd,0,none⟩),.int .i64 i] w λe w'=>
  e=.returned (.agg (D.look i).toArray)/\zn w' bd S {D with reads:=D.reads+1} ba pa bc pc/\Kept (λk=>k=bd) w w':=by
 obtain⟨Zb,A,al⟩:∃Zb:List Value,Zb=z9/\∀w,(zeroValue 131).run Tryz.prog w=.ok (.agg Zb.toArray) w:=⟨z9,rfl,qa Tryz.infoBlock⟩;obtain⟨s,y,Z⟩:∃s:List Value,s=yN/\∀w,(zeroValue 133).run Tryz.prog w=.ok (.agg s.toArray) w:=⟨yN,rfl,qa Tryz.infoWrite⟩;have r:Hid (Zb.length=128):=by rw [A];exact zI.1
 have x:Hid (s.length=129):=by rw [y];exact et (· +1) zI.1
 clear A y;obtain⟨g,rfl⟩:=h.row (by omega);have X:=h.c0;have aj:=h.c1;have af:=h.c3;have Y:=h.fz 3;have ah:=h.lt bd h.bdS;have G:Hid (zn w bd S D (some ⟨g,0,none⟩) pa bc pc):=h;have ad:=h.len;have j:Hid (zW D.bs[i]):=h.ok.bs _ (ag F);have u:Hid _:=h.lt;have T:Hid _:=h.set_reads (D.reads+1)
 have K:Hid (zn ((w.setCell ⟨bd,3,none⟩ (.int .i64 (D.reads+1))).alloc (.cells Zb.toArray 131)) bd S {D with reads:=D.reads+1} (some ⟨g,0,none⟩) pa bc pc):=
  T.kept (Kept.alloc (λ_=>False) _ _) nF
 have Q:Hid (vn w (((w.setCell ⟨bd,3,none⟩ (.int .i64 (D.reads+1))).alloc (.cells Zb.toArray 131)).alloc (.cells D.bs[i].toArray 131)) bd S {D with reads:=D.reads+1} (some ⟨g,0,none⟩) pa bc pc Zb D.bs[i]):=by
  refine⟨K.kept (Kept.alloc (λ_=>False) _ _) nF,((Kept.setCell (S:=λk=>k=bd) w _ _ rfl).trans (Kept.alloc _ _ _) iL).trans (Kept.alloc _ _ _) iL,?_,?_⟩
  .have:=heap_alloc2_old (w.setCell ⟨bd,3,none⟩ (.int .i64 (D.reads+1))) (.cells Zb.toArray 131) (.cells D.bs[i].toArray 131);simpa using this
  .have:=heap_alloc2_new (w.setCell ⟨bd,3,none⟩ (.int .i64 (D.reads+1))) (.cells Zb.toArray 131) (.cells D.bs[i].toArray 131);simpa using this
 have n:Hid _:=qc Tryz.infoBlock;have o:Hid _:=qc Tryz.infoWrite;clear h;have H:(i:Int)<(D.bs.length:Int):=by omega
 go_enter Tryz.func81,Tryz.ntmps81
 go_wp2_with (first
  |(refine wpList_load_mid rfl 131 (.tmp 32) rfl _ _ rfl D.bs[i] _ (K.range i F) Tryz.underlying131 rfl (by rw [j.1];exact n.out) ?_)
  |(refine zi rfl 131 (.tmp 5) (.tmp 33) rfl _ _ D.bs[i] (by simp) rfl rfl (by rw [j.1];exact n.out) (by rw [j.1];simpa using r.out) j.2 ?_))
 go_loopw [39] (λt wr=>∃k:Nat,k<=D.ps.length/\t=.int .i64 k/\vn w wr bd S {D with reads:=D.reads+1} (some ⟨g,0,none⟩) pa bc pc Zb (jj i (D.ps.take k) D.bs[i])) (λt _=>D.ps.length-(intOf t).toNat)
 case atStart=>exact⟨0,ai _,rfl,Q.out⟩
 case round=>
  obtain⟨k,ak,rfl,b⟩:=hrel;change Hid _ at b;have d:Hid (zW (jj i (D.ps.take k) D.bs[i])):=Qe j.out (λp R=>(G.ok.ps p (aJ R)).2);have aa:=b.lt;by_cases m:k<D.ps.length
  .obtain⟨O,rfl⟩:=G.prow (by omega);have J:Hid _:=b.disk.prange k m;have a:Hid (zW D.ps[k].2):=(G.ok.ps _ (ag m)).2;have B:Hid _:=YU i D.ps D.bs[i] k m;generalize P:D.ps[k]=q at*;obtain⟨c,l⟩:=q;have z:Hid (Value.oneCell' (.int .i64 (c:Int))=true):=rfl;have E:Hid (vn w (wr.alloc (.cells (.int .i64 (c:Int)::l).toArray 133)) bd S {D with reads:=D.reads+1} (some ⟨g,0,none⟩) (some ⟨O,0,none⟩) bc pc Zb (jj i (D.ps.take k) D.bs[i])):=b.alloc _;clear P;have V:(k:Int)<(D.ps.length:Int):=by omega
   by_cases f:c=i
   .have L:((c:Int)==(i:Int))=true:=by simp [f]
    have C:Hid _:=f;clear f
    go_wp2_with (first
     |(refine wpList_load_mid rfl 133 (.tmp 41) rfl _ _ rfl (.int .i64 (c:Int)::l) _ J.out Tryz.underlying133 rfl (by rw [ae,a.1];exact o.out) ?_)
     |(refine zi rfl 133 (.tmp 7) (.tmp 42) rfl _ _ (.int .i64 (c:Int)::l) rfl rfl rfl (by rw [ae,a.1];exact o.out) (by rw [ae,a.1];simpa using x.out) (aZ.2 ⟨z.out,a.2⟩) ?_)
     |(refine wpList_load_mid rfl 131 (.tmp 47) rfl _ _ rfl l _ (yn (heap_alloc_new wr _)) Tryz.underlying131 rfl (by rw [a.1];exact n.out) ?_)
     |(refine wpList_store_mid rfl 131 (.tmp 5) (.tmp 48) rfl _ _ _ rfl rfl (by have:=yu E.curb;rw [d.1] at this;simpa [a.1] using this) (by rw [aw,a.1];exact n.out) (all_oneCell_toArray a.2) ?_))
    go_roundw
    case rel=>exact⟨k+1,by omega,by go_num,by rw [B.out,aB C.out];exact E.set u.out l (by rw [d.1,a.1])⟩
    case measure=>simp [intOf];omega
   .have L:((c:Int)==(i:Int))=false:=by simp;omega
    have C:Hid _:=f;clear f
    go_wp2_with (first
     |(refine wpList_load_mid rfl 133 (.tmp 41) rfl _ _ rfl (.int .i64 (c:Int)::l) _ J.out Tryz.underlying133 rfl (by rw [ae,a.1];exact o.out) ?_)
     |(refine zi rfl 133 (.tmp 7) (.tmp 42) rfl _ _ (.int .i64 (c:Int)::l) rfl rfl rfl (by rw [ae,a.1];exact o.out) (by rw [ae,a.1];simpa using x.out) (aZ.2 ⟨z.out,a.2⟩) ?_))
    go_roundw
    case rel=>exact⟨k+1,by omega,by go_num,by rw [B.out,az C.out];exact E.out⟩
    case measure=>simp [intOf];omega
  .have W:¬(k:Int)<(D.ps.length:Int):=by omega
   go_wp2_with (first
    |(refine wpList_load_mid rfl 131 (.tmp 5) rfl _ _ rfl (jj i (D.ps.take k) D.bs[i]) _ (zU b.curb) Tryz.underlying131 rfl (by rw [d.1];exact n.out) ?_)
    |(refine wpList_store_mid rfl 131 (.tmp 4) (.tmp 50) rfl _ _ _ rfl rfl (by have:=yu b.resb;rw [r.out] at this;simpa [d.1] using this) (by rw [aw,d.1];exact n.out) (all_oneCell_toArray d.2) ?_))
   obtain⟨N,U,M⟩:=b.done u.out (by rw [r.out,d.1])
   have I:jj i (D.ps.take k) D.bs[i]=D.look i:=by unfold Dk.look;rw [aB ⟨by omega,H⟩,ao (by omega),mO,aE,aI F,i9]
   refine bodyPost_ret (v:=.agg (jj i (D.ps.take k) D.bs[i]).toArray) (results_cell_row Tryz.results81 _ _ w.heap.size 131 _ (0,0) _ rfl M Tryz.underlying131 rfl (by rw [aw,d.1];exact n.out)) rfl ⟨by rw [I],N,U⟩
end disk
namespace disk
open Go.RowKit
theorem YV(b:Nat):∀(vs:List Value) (k:Nat) (a:Array Value),b+k+vs.length<=a.size->
 ((vs.zipIdx k).foldl (λcs (p:Value×Nat)=>cs.setIfInBounds (b+p.2) p.1) a).toList=a.toList.take (b+k)++vs++a.toList.drop (b+k+vs.length)
 |[],k,a,_=>by simp
 |v::r,k,a,h=>by simp only [ae] at h;rw [List.zipIdx_cons,l5,YV b r (k+1) _ (by simp;omega)];simp only [Array.toList_setIfInBounds,ae];rw [iw,aB (by simp;omega)];obtain⟨k1,k2⟩:=KR (a.toList.take (b+k)) (a.toList.drop (b+k+1)) v (b+k) r.length (by simp;omega);rw [show b+(k+1)=b+k+1 from by omega,k1,k2,eI,show b+k+1+r.length=b+k+(r.length+1) from by omega];simp
theorem fV(b:Nat)(vs:List Value)(a:Array Value)(h:b+vs.length<=a.size):
 vs.zipIdx.foldl (λcs (p:Value×Nat)=>cs.setIfInBounds (b+p.2) p.1) a=(a.toList.take b++vs++a.toList.drop (b+vs.length)).toArray:=by
 apply lW;rw [YV b vs 0 a (by simpa using h)];simp
theorem uH(vs:List Value)(a:Array Value)(h:vs.length=a.size):
 vs.zipIdx.foldl (λcs (p:Value×Nat)=>cs.setIfInBounds p.2 p.1) a=vs.toArray:=by
 have:=fV 0 vs a (by omega);simp only [aV] at this;rw [this,h];simp
theorem jk{t:TypeId}{n:Nat}(h:(Tryz.prog.info? t).map (·.size)=some n)(w:World):(sizeOf t).run Tryz.prog w=.ok n w:=by
 cases a:Tryz.prog.info? t with
 |none=>simp [a] at h
 |some i=>simp [a] at h;simp [sizeOf,typeInfo,a,h]
theorem YW:(Tryz.prog.info? 3).map (·.size)=some 1:=by kernel_rfl
theorem bu(w:World)(n:Int)(b:List Value)(h:b.length=128):
 (Instr.build 133 #[(0,.int .i64 n),(1,.agg b.toArray)]).run Tryz.prog w=.ok (.agg (.int .i64 n::b).toArray) w:=by
 have k:=qa Tryz.infoWrite w;have a:yN.length=129:=et (· +1) zI.1;have j:=jk YW;have i:=jk (qc Tryz.infoBlock);generalize l:yN=c at*;have d:¬c=[]:=λe=>by rw [e] at a;simp at a
 have f:=fV 1 b (c.set 0 (.int .i64 n)).toArray (by simp [h,a]);have g:¬(¬b.length=128\/c.length<1+b.length):=by omega
 simp only [Instr.build,il,k,eM,iz Tryz.underlying133 w];simp [j,i,Value.cells,Instr.fill];rw [az d,az g,f];simp only [iI];congr 2;apply lW
 cases c with
 |nil=>exact absurd rfl d
 |cons z m=>simp [h];simp at a;omega
theorem bv(w:World)(cs:List Value)(h:cs.length=129):
 (Instr.buildSlice 116 1 #[(0,.agg cs.toArray)]).run Tryz.prog w=.ok (.slice (some ⟨w.heap.size,0,none⟩) 1 1) (w.alloc (.cells cs.toArray 133)):=by
 have d:=qa Tryz.infoWrite w;have b:=jk (qc Tryz.infoWrite);have c:=et (· +1) zI.1;generalize e:yN=f at*;have a:¬(¬cs.length=129\/129<cs.length):=by omega
 simp only [Instr.buildSlice,il,eM,iz Tryz.underlying116 w]
 first
  |(simp [b,Value.cells,Instr.fill]
    rw [az a,uH cs _ (by simp [h])];simp [newRow]
    done)
  |(simp [b,d,Value.cells,Instr.fill,c]
    rw [az a,uH cs _ (by simp [h])]
    simp [newRow])
def U4(parts:Array (Nat×Value)):Sem Value:=Instr.build 133 parts
theorem VB(parts:Array (Nat×Value)):Instr.build 133 parts=U4 parts:=rfl
theorem JD(w:World)(n:Int)(b:List Value)(h:b.length=128):(U4 #[(0,.int .i64 n),(1,.agg b.toArray)]).run Tryz.prog w=.ok (.agg (.int .i64 n::b).toArray) w:=bu w n b h
def U5(len:Nat)(parts:Array (Nat×Value)):Sem Value:=Instr.buildSlice 116 len parts
theorem VC(a:Nat)(parts:Array (Nat×Value)):Instr.buildSlice 116 a parts=U5 a parts:=rfl
theorem JE(w:World)(c:Value)(cs:List Value)(h:cs.length=128):(U5 1 #[(0,.agg (c::cs).toArray)]).run Tryz.prog w=.ok (.slice (some ⟨w.heap.size,0,none⟩) 1 1) (w.alloc (.cells (c::cs).toArray 133)):=
 bv w (c::cs) (by simp [h])
def U6(v:Value):Sem Value:=Instr.loadAt 131 v
theorem U7(v:Value):Instr.loadAt 131 v=U6 v:=rfl
theorem VD(w:World)(b a:Nat)(cs:List Value)(c:w.rangeAt b a cs)(h:cs.length=128):(U6 (.pointer (some ⟨b,a,none⟩))).run Tryz.prog w=.ok (.agg cs.toArray) w:=
 run_loadAt_mid w b a 131 cs _ c Tryz.underlying131 rfl (by rw [h];exact qc Tryz.infoBlock)
end disk
namespace prog
open Go.ChangeShapes Go.WideShapes Go.ChangeAt Go.RowKit disk ref
open keys (zg zd zq zl)
variable {w:World}{b:Nat}{p:Pg}
theorem fW(w:World)(k:Nat)(a:k<=6):Calls Tryz.prog 145 #[.int .u8 k] w λe w'=>e=.returned (.int .i64 (zm k:Nat))/\w'=w:=by
 rcases (by omega:k=0\/k=1\/k=2\/k=3\/k=4\/k=5\/k=6) with rfl|rfl|rfl|rfl|rfl|rfl|rfl
 all_goals
  go_enter Tryz.func145,Tryz.ntmps145;go_wp2;go_ret;exact⟨rfl,rfl⟩
theorem U8(w:World)(k a:Nat)(b:k<=6)(h:zm k=a):Calls Tryz.prog 145 #[.int .u8 k] w λe w'=>e=.returned (.int .i64 a)/\w'=w:=by
 rw [<-h];exact fW w k b
theorem vo(w:World)(k:Nat)(a:k<=6):Calls Tryz.prog 129 #[.int .u8 k] w λe w'=>e=.returned (.int .i64 (room k:Nat))/\w'=w:=by
 rcases (by omega:k=0\/k=1\/k=2\/k=3\/k=4\/k=5\/k=6) with rfl|rfl|rfl|rfl|rfl|rfl|rfl
 all_goals
  go_enter Tryz.func129,Tryz.ntmps129;go_wp2_with (go_at_call 145;refine(fW _ _ (by omega)).mono ?_;rintro e w' ⟨rfl,rfl⟩;simp only [zm]);go_ret;exact⟨rfl,rfl⟩
structure yd (w:World) (b:Nat) (p:Pg):Prop where
 bs:xh w b 154 p.bytes
 ok:p.Ok
theorem yd.kept{w':World}{T:Nat->Prop}(h:yd w b p)(k:Kept T w w')(a:¬T b):yd w' b p:=⟨h.bs.kept k a,h.ok⟩
theorem vZ(n:Nat)(h:n<256):(UInt8.ofNat n).toNat=n:=by simp;omega
theorem yd.c0(h:yd w b p):w.cell? ⟨b,0,none⟩=some (.int .u8 (p.kind:Int)):=by
 have a:=h.bs.cell 0 (by rw [h.ok.len];omega);have c:p.bytes[0]'(by rw [h.ok.len];omega)=UInt8.ofNat p.kind:=aK ((aI _).symm.trans p.at0);rw [c,vZ _ (by have:=h.ok.kind;omega)] at a;exact a
theorem yd.c1(h:yd w b p):w.cell? ⟨b,1,none⟩=some (.int .u8 (p.items.length:Int)):=by
 have a:=h.bs.cell 1 (by rw [h.ok.len];omega);have c:p.bytes[1]'(by rw [h.ok.len];omega)=UInt8.ofNat p.items.length:=aK ((aI _).symm.trans p.at1);rw [c,vZ _ (by have:=h.ok.few;omega)] at a;exact a
theorem v5(w:World)(b:Nat)(p:Pg)(h:yd w b p):Calls Tryz.prog 144 #[.pointer (some ⟨b,0,none⟩)] w λe w'=>e=.returned (.int .u8 (p.kind:Nat))/\w'=w:=by
 have a:=h.c0;clear h;go_enter Tryz.func144,Tryz.ntmps144;go_wp2;go_ret;exact⟨rfl,rfl⟩
theorem uI(w:World)(b:Nat)(p:Pg)(h:yd w b p):Calls Tryz.prog 82 #[.pointer (some ⟨b,0,none⟩)] w λe w'=>e=.returned (.int .i64 (p.items.length:Nat))/\w'=w:=by
 have a:=h.c1;have c:=h.ok.few;clear h;go_enter Tryz.func82,Tryz.ntmps82;go_wp2;go_ret;exact⟨rfl,rfl⟩
theorem YX(w:World)(b:Nat)(p:Pg)(h:yd w b p):Calls Tryz.prog 126 #[.pointer (some ⟨b,0,none⟩)] w λe w'=>e=.returned (.int .i64 (p.link:Nat))/\w'=w:=by
 have f:=h.c0;have d:=h.ok.link;have c:=h.ok.len;have a:Hid (numOf ((p.bytes.drop 2).take 2)=p.link):=by show _=_;rw [p.front];exact yJ 2 _ (by omega)
 change Hid _ at h;go_enter Tryz.func126,Tryz.ntmps126;go_wp2_with (go_at_call 83;refine(yQ _ b _ _ h.bs 2 2 126 p.link (by omega) (by omega) a (by omega)).mono ?_;rintro e w' ⟨rfl,rfl⟩);go_ret;exact⟨rfl,rfl⟩
theorem dQ(w:World)(b:Nat)(p:Pg)(h:yd w b p)(n:Nat)(g:n<65536):Calls Tryz.prog 132 #[.pointer (some ⟨b,0,none⟩),.int .i64 n] w λe w'=>e=.returned (.tuple #[])/\yd w' b (p.setLink n)/\Kept (λi=>i=b) w w':=by
 have f:=h.ok.len;change Hid _ at h;go_enter Tryz.func132,Tryz.ntmps132;go_wp2_with (go_at_call 138;refine(yc _ b _ _ h.bs 2 2 126 (by omega) (by omega) n (by omega)).mono ?_;rintro e w' ⟨rfl,d,a⟩;change Hid _ at d a);go_end0;have c:=d.out;rw [p.setLink_bytes] at c;exact⟨rfl,⟨c,⟨h.ok.kind,g,h.ok.wide,h.ok.fits,h.ok.few⟩⟩,a⟩
def YY(b k i:Nat):Value:=.slice (some ⟨b,4+i*zm k,none⟩) (zm k) (124-i*zm k)
def jM(b k n:Nat):Value:=.slice (some ⟨b,4,none⟩) (n*zm k) 124
theorem YZ(k:Nat):zm k<=20:=by unfold zm;split<;>omega
theorem KV:Tryz.prog.arrayLen 154=128:=by kernel_rfl
theorem xe:Tryz.prog.underlying 154=some (.array (Tryz.prog.arrayLen 154) (Tryz.prog.elem 154)):=by kernel_rfl
theorem Qf:(Tryz.prog.info? (Tryz.prog.elem 154)).map (·.size)=some 1:=by kernel_rfl
theorem Y0(w:World)(b:Nat)(l h:Int)(a N:Nat)(c:l=a)(d:h=a+N)(f:a+N<=128)(g:a<128):
 (Instr.sliceAt 154 (.pointer (some ⟨b,0,none⟩)) (some (.int .i64 l)) (some (.int .i64 h)) none).run Tryz.prog w=.ok (.slice (some ⟨b,a,none⟩) N (128-a)) w:=by
 have e:=jk Qf w;rw [run_sliceAt_array_lh w _ _ xe .i64 .i64 l h (by omega) (by omega) (by rw [KV];omega),e];simp only [eM,slicedAt,KV];subst c;subst d;simp only [mO,Nat.mul_one,eO,aV];rw [az (by omega),show ((a:Int)+N).toNat=a+N from by omega,show a+N-a=N from by omega]
theorem Y1(w:World)(b:Nat)(p:Pg)(h:yd w b p)(i:Nat)(j:i<p.items.length)(l:1<=zm p.kind):Calls Tryz.prog 84 #[.pointer (some ⟨b,0,none⟩),.int .i64 i] w λe w'=>e=.returned (YY b p.kind i)/\w'=w:=by
 have q:=h.c0;have f:=h.ok.kind;have m:=YZ p.kind;have g:(i+1)*zm p.kind<=124:=aF (eH _ j) h.ok.fits;rw [eS,lf] at g;have n:((i:Int)*(zm p.kind:Nat))=((i*zm p.kind:Nat):Int):=by simp
 have k:Hid (YY b p.kind i=.slice (some ⟨b,4+i*zm p.kind,none⟩) (zm p.kind) (124-i*zm p.kind)):=rfl;change Hid _ at h;generalize YY b p.kind i=o at*;generalize i*zm p.kind=c at*;generalize a:zm p.kind=d at*;change Hid _ at a;have hcut:=Y0 w b (4+↑c) (4+↑c+↑d) (4+c) d (by omega) (by omega) (by omega) (by omega);go_enter Tryz.func84,Tryz.ntmps84
 go_wp2_with (first
  |(go_at_call 144;refine(v5 _ b p h).mono ?_;rintro e w' ⟨rfl,rfl⟩)
  |(go_at_call 145;refine(fW _ _ f).mono ?_;rintro e w' ⟨rfl,rfl⟩;rw [a.out]))
 go_ret;exact⟨by rw [k.out,show 124-c=128-(4+c) from by omega];rfl,rfl⟩
theorem jZ(w:World)(b:Nat)(p:Pg)(h:yd w b p):Calls Tryz.prog 125 #[.pointer (some ⟨b,0,none⟩)] w λe w'=>e=.returned (jM b p.kind p.items.length)/\∃n,w'=w.drewN n:=by
 have f:=h.ok.kind;have i:=YZ p.kind;have a:=h.ok.fits;have l:((p.items.length:Int)*(zm p.kind:Nat))=((p.items.length*zm p.kind:Nat):Int):=by simp
 have g:Hid (jM b p.kind p.items.length=.slice (some ⟨b,4,none⟩) (p.items.length*zm p.kind) 124):=rfl;change Hid _ at h;generalize jM b p.kind p.items.length=j at*;generalize p.items.length*zm p.kind=d at*;generalize c:zm p.kind=k at*;change Hid _ at c;have hcut:∀w,(Instr.sliceAt 154 (.pointer (some ⟨b,0,none⟩)) (some (.int .i64 4)) (some (.int .i64 (4+↑d))) none).run Tryz.prog w=.ok (.slice (some ⟨b,4,none⟩) d 124) w:=λw=>Y0 w b 4 (4+↑d) 4 d rfl rfl (by omega) (by omega);go_enter Tryz.func125,Tryz.ntmps125;go_wp2
 go_quiet ((first
  |(go_at_call 82;exact Calls.quiet_of_same (uI _ b p (by exact h.kept (T:=λ_=>False) kD (λa=>a))))
  |(go_at_call 144;exact Calls.quiet_of_same (v5 _ b p (by exact h.kept (T:=λ_=>False) kD (λa=>a))))
  |(go_at_call 145;exact Calls.quiet_of_same (U8 _ _ _ f c))))
 go_wp2;go_ret;exact⟨by rw [g.out];rfl,_,rfl⟩
end prog
namespace prog
variable {p:Pg}
def Pg.grown(p:Pg)(k:Nat):Pg:={p with items:=p.items++List.replicate k (List.replicate (zm p.kind) 0)}
def Pg.more(p:Pg)(vs:List (List UInt8)):Pg:={p with items:=p.items++vs}
theorem Pg.grown_len(p:Pg)(k:Nat):(p.grown k).items.length=p.items.length+k:=by simp [Pg.grown]
theorem Pg.Ok.more(h:p.Ok){vs:List (List UInt8)}(d:∀v∈vs,v.length=zm p.kind)(c:(p.items.length+vs.length)*zm p.kind<=124)(b:p.items.length+vs.length<=124):(p.more vs).Ok where
 kind:=h.kind
 link:=h.link
 wide:=λi a=>by
  rcases aj.1 a with a|a;.exact h.wide i a
  .exact d i a
 fits:=by simpa [Pg.more] using c
 few:=by simpa [Pg.more] using b
theorem Pg.grown_more(p:Pg)(k:Nat):p.grown k=p.more (List.replicate k (List.replicate (zm p.kind) 0)):=rfl
theorem Pg.Ok.grown(h:p.Ok)(k:Nat)(b:(p.items.length+k)*zm p.kind<=124)(a:p.items.length+k<=124):(p.grown k).Ok:=by
 rw [Pg.grown_more];exact h.more (λv c=>by rw [lz c];simp) (by simpa using b) (by simpa using a)
theorem gH(w:Nat):∀k,(List.replicate k (List.replicate w (0:UInt8))).flatten=List.replicate (k*w) 0
 |0=>by simp
 |k+1=>by rw [mF,eo,gH w k,lC];congr 1;rw [eS];omega
theorem Pg.Ok.grown_bytes(h:p.Ok)(k:Nat)(b:(p.items.length+k)*zm p.kind<=124):qS p.bytes 1 [UInt8.ofNat (p.items.length+k)]=(p.grown k).bytes:=by
 have e:124-p.items.length*zm p.kind=k*zm p.kind+(124-(p.items.length+k)*zm p.kind):=by rw [eS] at *; omega
 have a:List.replicate (124-p.items.length*zm p.kind) (0:UInt8)=List.replicate (k*zm p.kind) 0++List.replicate (124-(p.items.length+k)*zm p.kind) 0:=by rw [lC,<-e]
 simp only [Pg.bytes,Pg.grown,ah,iF,aY,gH,a];simp [qS]
theorem Pg.Ok.more_bytes(h:p.Ok)(vs:List (List UInt8))(f:∀v∈vs,v.length=zm p.kind)(i:(p.items.length+vs.length)*zm p.kind<=124):
 qS (p.grown vs.length).bytes (4+p.items.length*zm p.kind) vs.flatten=(p.more vs).bytes:=by
 have e:(bytesOf 2 p.link).length=2:=zT 2 _;have a:=jE _ p.items h.wide;have b:=jE _ vs f
 have c:(p.grown vs.length).bytes=(UInt8.ofNat p.kind::UInt8.ofNat (p.items.length+vs.length)::bytesOf 2 p.link++p.items.flatten)++(List.replicate (vs.length*zm p.kind) 0++List.replicate (124-(p.items.length+vs.length)*zm p.kind) 0):=by simp only [Pg.bytes,Pg.grown,ah,iF,aY,gH];simp
 have d:(UInt8.ofNat p.kind::UInt8.ofNat (p.items.length+vs.length)::bytesOf 2 p.link++p.items.flatten).length=4+p.items.length*zm p.kind:=by simp only [ah,ae,e,a];try omega
 rw [c];unfold qS;have g:(List.replicate (vs.length*zm p.kind) (0:UInt8)).length=vs.flatten.length:=by rw [b];simp
 rw [<-d,iR,lh,<-g,i8];simp [Pg.bytes,Pg.more]
theorem Pg.Ok.push_over(h:p.Ok)(v:List UInt8)(c:v.length=zm p.kind)(b:(p.items.length+1)*zm p.kind<=124):qS (p.grown 1).bytes (4+p.items.length*zm p.kind) v=(p.push v).bytes:=by
 have:=h.more_bytes [v] (λu a=>by rw [aD.1 a];exact c) (by simpa using b);simpa [Pg.more,Pg.push] using this
theorem fX(l:List UInt8)(a:Nat)(u v:List UInt8)(h:a+u.length+v.length<=l.length):qS (qS l a u) (a+u.length) v=qS l a (u++v):=by
 have e:(l.take a).length=a:=by simp;omega
 have d:(l.take a++u).length=a+u.length:=by simp;omega
 have b:(qS l a u).drop (a+u.length+v.length)=l.drop (a+u.length+v.length):=by unfold qS;rw [<-d,lh,eI]
 have c:(qS l a u).take (a+u.length)=l.take a++u:=by unfold qS;rw [<-d,iR]
 unfold qS at b c ⊢;rw [c,b];simp [lF]
end prog
namespace prog
open Go.ChangeShapes Go.WideShapes Go.ChangeAt Go.RowKit disk ref
open keys (zg zd zq zl)
theorem Tryz.infoPage:(Tryz.prog.info? 154).map (λi=>(i.zero,i.size,i.bytes))=some (some (.agg z9.toArray),128,128):=by kernel_rfl
def JF(parts:Array (Nat×Value)):Sem Value:=Instr.build 154 parts
theorem VE(parts:Array (Nat×Value)):Instr.build 154 parts=JF parts:=rfl
theorem JG(w:World)(k:Int):(JF #[(0,.int .u8 k)]).run Tryz.prog w=.ok (.agg (.int .u8 k::List.replicate 127 (.int .u8 0)).toArray) w:=by
 have c:=qa Tryz.infoPage w;have b:=jk Qf;have a:z9=.int .u8 0::List.replicate 127 (.int .u8 0):=rfl;simp only [JF,Instr.build,il,c,eM,iz xe w];simp [b,Value.cells,Instr.fill,a]
def zo(p:Pg):List Value:=p.bytes.map qk
theorem QO{p:Pg}(h:p.Ok):(zo p).length=128:=by rw [zo,eF,h.len]
theorem yv{p:Pg}(h:p.Ok):zW (zo p):=⟨QO h,uG _⟩
theorem Wq(k:Nat)(a:k<=6):zo (Pg.new k)=.int .u8 (k:Int)::List.replicate 127 (.int .u8 0):=by
 rw [zo,Pg.new_bytes,aT,List.map_replicate];unfold qk;rw [vZ _ (by omega)];rfl
end prog
namespace prog
open Go.ChangeShapes Go.WideShapes Go.ChangeAt Go.RowKit disk ref
section
attribute [local go_sem ↓] VE
theorem jU(w:World)(k:Nat)(f:k<=6):Calls Tryz.prog 131 #[.int .u8 k] w λe w'=>e=.returned (.agg (zo (Pg.new k)).toArray)/\Kept (λ_=>False) w w':=by
 have i:Hid _:=qc Tryz.infoPage;obtain⟨Zb,b,j⟩:∃Zb:List Value,Zb=z9/\∀w,(zeroValue 154).run Tryz.prog w=.ok (.agg Zb.toArray) w:=⟨z9,rfl,qa Tryz.infoPage⟩;have h:Hid (zW Zb):=by rw [b];exact zI
 clear b;have g:Hid _:=Wq k f;have a:Hid _:=yv (Pg.new_ok k f);have c:=λw=>JG w (k:Int);rw [<-g.out] at c;generalize zo (Pg.new k)=d at*;clear g;go_enter Tryz.func131,Tryz.ntmps131;go_wp2_with (show wpList _ _ _ ({dst:=none,op:=.store _ _ _,type:=_,pos:=_,after:=_,guard:=_}::_) _ _;refine zi rfl 154 (.tmp 2) (.tmp 4) rfl _ _ d (by simp) rfl rfl (by rw [a.1];exact i) (by rw [aw,h.1,a.1]) a.2 ?_);refine bodyPost_ret (v:=.agg d.toArray) (results_cell_row Tryz.results131 _ _ w.heap.size 154 _ (0,0) _ rfl (by have:=heap_alloc_new w (.cells d.toArray 154);simpa using this) xe rfl (by rw [aw,a.1];exact i)) rfl ⟨rfl,Kept.alloc _ _ _⟩
end
theorem U9(l:List UInt8)(i:Nat)(c:UInt8)(h:i<l.length):qS l i [c]=l.set i c:=by
 rw [Qd _ _ _ _ (by simp;omega),YT]
def v6(b k n i:Nat):Value:=.slice (some ⟨b,4+n*zm k,none⟩) (i*zm k) (124-n*zm k)
theorem v7(w:World)(b:Nat)(p:Pg)(h:yd w b p)(k:Nat)(a:(p.items.length+k)*zm p.kind<=124)(q:p.items.length+k<=124)(B:1<=k*zm p.kind):
 Calls Tryz.prog 133 #[.pointer (some ⟨b,0,none⟩),.int .i64 k] w λe w'=>e=.returned (v6 b p.kind p.items.length k)/\yd w' b (p.grown k)/\Kept (λi=>i=b) w w':=by
 have A:=h.c1;have u:=h.bs.fz 1;have d:Hid _:=h;clear h;go_enter Tryz.func133,Tryz.ntmps133;go_wp2_with (go_at_call 125;refine(jZ _ b p d).mono ?_;rintro e o ⟨rfl,f,rfl⟩;unfold jM)
 go_region
 have t:=d.ok.len
 have m:Hid (yd ((w.drewN (f+1)).setCell ⟨b,1,none⟩ (.int .u8 (↑p.items.length+↑k))) b (p.grown k)):=by show yd _ b (p.grown k);refine⟨?_,d.ok.grown k a q⟩;have l:=(d.bs.kept (T:=λ_=>False) (w':=w.drewN (f+1)) kD (λa=>a)).set 1 (UInt8.ofNat (p.items.length+k));rw [vZ _ (by omega),<-U9 _ _ _ (by omega),d.ok.grown_bytes k a] at l;exact l
 have r:Hid (Kept (λi=>i=b) w ((w.drewN (f+1)).setCell ⟨b,1,none⟩ (.int .u8 (↑p.items.length+↑k)))):=
  Kept.trans (S':=λi=>i=b) (b:=w.drewN (f+1)) kD (Kept.setCell _ _ _ rfl) iL
 generalize (w.drewN (f+1)).setCell ⟨b,1,none⟩ (.int .u8 (↑p.items.length+↑k))=y at*;have s:Hid (v6 b p.kind p.items.length k=.slice (some ⟨b,4+p.items.length*zm p.kind,none⟩) (k*zm p.kind) (124-p.items.length*zm p.kind)):=rfl;have g:Hid ((p.grown k).kind=p.kind):=rfl;have j:((p.items.length:Int)*(zm p.kind:Nat))=((p.items.length*zm p.kind:Nat):Int):=by simp
 have c:(p.items.length+k)*zm p.kind=p.items.length*zm p.kind+k*zm p.kind:=eS ..;rw [c] at a;rw [j];change Hid _ at c;clear j;generalize p.items.length*zm p.kind=x at*;generalize k*zm p.kind=z at*;have n:¬124=x:=by omega
 go_wp2_with (go_at_call 125;refine(jZ _ b _ m).mono ?_;rintro e o ⟨rfl,v,rfl⟩;unfold jM;rw [g.out,Pg.grown_len,c.out]);go_ret;exact⟨by rw [s.out];rfl,m.kept (T:=λ_=>False) kD (λa=>a),r.trans (S':=λ_=>False) kD fE⟩
end prog
namespace prog
open ref
variable {h:Nat}{p:Pl}
def Tr:Nat->Type
 |0=>Nat×List En
 |h+1=>Nat×List (Pl×Tr h)
def Tr.blk:{h:Nat}->Tr h->Nat
 |0,t=>t.1
 |_+1,t=>t.1
def Tr.items:{h:Nat}->Tr h->List En
 |0,t=>t.2
 |_+1,t=>t.2.map λc=>⟨c.1,false,0,c.2.blk⟩
def zS:Nat->Nat
 |0=>5
 |_+1=>4
def Tr.ents:{h:Nat}->Tr h->List En
 |0,t=>t.2
 |h+1,t=>(t.2.map λc=>Tr.ents (h:=h) c.2).flatten
def Tr.blocks:{h:Nat}->Tr h->List Nat
 |0,t=>[t.1]
 |h+1,t=>t.1::(t.2.map λc=>Tr.blocks (h:=h) c.2).flatten
def Tr.Lay(rd:Nat->List UInt8):{h:Nat}->Tr h->Prop
 |0,t=>rd t.1=(zc 5 t.2).bytes
 |h+1,t=>rd t.1=(zc 4 (Tr.items (h:=h+1) t)).bytes/\∀c∈t.2,Tr.Lay rd (h:=h) c.2
def zM{h:Nat}(cs:List (Pl×Tr h)):List En:=(cs.map λc=>c.2.ents).flatten
def zF{h:Nat}(cs:List (Pl×Tr h)):List Nat:=(cs.map λc=>c.2.blocks).flatten
theorem zC(A B:List (Pl×Tr h)):zM (A++B)=zM A++zM B:=by simp [zM]
theorem zp(c:Pl×Tr h)(B:List (Pl×Tr h)):zM (c::B)=c.2.ents++zM B:=by simp [zM]
theorem qz(A B:List (Pl×Tr h)):zF (A++B)=zF A++zF B:=by simp [zF]
theorem qM(c:Pl×Tr h)(B:List (Pl×Tr h)):zF (c::B)=c.2.blocks++zF B:=by simp [zF]
theorem Tr.ents_succ(t:Tr (h+1)):t.ents=zM t.2:=rfl
theorem Tr.blocks_succ(t:Tr (h+1)):t.blocks=t.1::zF t.2:=rfl
theorem Tr.blk_mem:∀{h:Nat} (t:Tr h),t.blk∈t.blocks
 |0,t=>aD.2 rfl
 |_+1,t=>am ..
structure Pl.Ok (p:Pl):Prop where
 key:p.key.data.toList.length<=8
 zero:(0:UInt8)∉p.key.data.toList
 num0:0<=p.num
 num1:p.num<9223372036854775808
theorem En.Ok.pl{e:En}(h:e.Ok):e.pl.Ok:=⟨h.key,h.zero,h.num0,h.num1⟩
theorem Pl.Ok.en(h:p.Ok){n:Nat}(a:n<65536):En.Ok ⟨p,false,0,n⟩:=⟨h.key,h.zero,h.num0,h.num1,by simp,by simp,a⟩
def xi(l:List En):Prop:=l.Pairwise λa b=>a.pl.lt b.pl=true
def Tr.First:{h:Nat}->Tr h->Pl->Prop
 |0,_,_=>True
 |_+1,t,p=>∃u r,t.2=(p,u)::r
def bw{h:Nat}(cs:List (Pl×Tr h)):Prop:=
 ∀A p t B,cs=A++(p,t)::B->(∀e∈zM A,e.pl.lt p=true)/\(∀e∈zM ((p,t)::B),¬e.pl.lt p=true)/\t.First p
def Tr.Good:{h:Nat}->Tr h->Prop
 |0,t=>t.1<65536/\∀e∈t.2,e.Ok
 |h+1,t=>t.1<65536/\(∀c∈t.2,Tr.Good (h:=h) c.2/\(c.2.items).length<=6/\c.1.Ok)/\t.2.Pairwise (λa b=>a.1.lt b.1=true)/\bw t.2/\∀c∈t.2,3<=(c.2.items).length
structure Kids {h:Nat} (cs:List (Pl×Tr h)):Prop where
 good:∀c∈cs,c.2.Good/\c.2.items.length<=6/\c.1.Ok
 places:cs.Pairwise λa b=>a.1.lt b.1=true
 seps:bw cs
theorem Tr.Good.kids{t:Tr (h+1)}(g:t.Good):Kids t.2:=⟨g.2.1,g.2.2.1,g.2.2.2.1⟩
theorem Tr.Good.full{t:Tr (h+1)}(g:t.Good):∀c∈t.2,3<=c.2.items.length:=g.2.2.2.2
theorem Tr.Good.blk:∀{h:Nat} {t:Tr h},t.Good->t.blk<65536
 |0,_,g=>g.1
 |_+1,_,g=>g.1
theorem Kids.node{cs:List (Pl×Tr h)}(k:Kids cs)(f:∀c∈cs,3<=c.2.items.length){b:Nat}(a:b<65536):Tr.Good (h:=h+1) (b,cs):=⟨a,k.good,k.places,k.seps,f⟩
theorem Tr.Good.items_ok:∀{h:Nat} {t:Tr h},t.Good->∀e∈t.items,e.Ok
 |0,_,g,e,he=>g.2 e he
 |h+1,t,g,e,he=>by obtain⟨c,a,rfl⟩:=av.1 he;have:=g.kids.good c a;exact this.2.2.en this.1.blk
theorem xf(t:Tr (h+1)):t.items.length=t.2.length:=by simp [Tr.items]
theorem Tr.Good.some_ent:∀{h:Nat} {t:Tr h},t.Good->1<=t.items.length->∃e,e∈t.ents
 |0,t,_,hl=>by
  have:t.2≠[]:=λe=>by simp [Tr.items,e] at hl
  obtain⟨e,r,a⟩:=List.exists_cons_of_ne_nil this;exact⟨e,by show e∈t.2;rw [a];exact am ..⟩
 |h+1,t,g,hl=>by
  rw [xf] at hl;have:t.2≠[]:=λe=>by simp [e] at hl
  obtain⟨c,r,d⟩:=List.exists_cons_of_ne_nil this;have b:c∈t.2:=by rw [d];exact am ..
  obtain⟨e,a⟩:=(g.kids.good c b).1.some_ent (by have:=g.full c b;omega);exact⟨e,by rw [Tr.ents_succ,d,zp];exact ac _ a⟩
theorem bw.left{A B:List (Pl×Tr h)}(s:bw (A++B)):bw A:=λd p t B' e=>by
 obtain⟨b,a,c⟩:=s d p t (B'++B) (by rw [e];simp);exact⟨b,λg f=>a g (by rw [show (p,t)::(B'++B)=((p,t)::B')++B from rfl,zC];exact ac _ f),c⟩
theorem bw.right{A B:List (Pl×Tr h)}(s:bw (A++B)):bw B:=λd p t B' e=>by
 obtain⟨b,a,c⟩:=s (A++d) p t B' (by rw [e];simp);exact⟨λg f=>b g (by rw [zC];exact af _ f),a,c⟩
theorem Kids.left{A B:List (Pl×Tr h)}(k:Kids (A++B)):Kids A:=⟨λc a=>k.good c (ac _ a),(ep.1 k.places).1,k.seps.left⟩
theorem Kids.right{A B:List (Pl×Tr h)}(k:Kids (A++B)):Kids B:=⟨λc a=>k.good c (af _ a),(ep.1 k.places).2.1,k.seps.right⟩
theorem Kids.nil:Kids ([]:List (Pl×Tr h)):=⟨λ_ h=>(by cases h),List.Pairwise.nil,λA p t B e=>by simp at e⟩
theorem bw.join{A B:List (Pl×Tr h)}{t:Tr h}(z:bw A)(w:bw ((p,t)::B))(l:∀e∈zM A,e.pl.lt p=true)(s:∀a∈A,a.1.lt p=true)(x:∀b∈B,p.lt b.1=true):bw (A++(p,t)::B):=by
 obtain⟨_,k,o⟩:=w [] p t B rfl;intro C q u B' e;rcases List.append_eq_append_iff.1 e with⟨m,g,f⟩|⟨m,g,f⟩
 .cases m with
  |nil=>
   simp only [aM] at g;simp only [aH,ee,eK] at f;obtain⟨⟨rfl,rfl⟩,rfl⟩:=f;subst g;exact⟨l,k,o⟩
  |cons c m=>
   obtain⟨i,j,n⟩:=w (c::m) q u B' f;refine⟨λv d=>?_,j,n⟩;rw [g,zC] at d;rcases aj.1 d with d|d
   .have y:(q,u)∈B:=by simp only [a9,ee] at f;rw [f.2];simp
    exact Pl.trans (l v d) (x _ y)
   .exact i v d
 .cases m with
  |nil=>
   simp only [aM] at g;simp only [aH,ee,eK] at f;obtain⟨⟨rfl,rfl⟩,rfl⟩:=f;subst g;exact⟨l,k,o⟩
  |cons c m=>
   simp only [a9,ee] at f;obtain⟨rfl,f⟩:=f;obtain⟨i,j,n⟩:=z C q u m g;refine⟨i,λv d=>?_,n⟩;rw [f,show (q,u)::(m++(p,t)::B)=((q,u)::m)++(p,t)::B from rfl,zC] at d;rcases aj.1 d with d|d;.exact j v d
   .exact λr=>k v d (Pl.trans r (s (q,u) (by rw [g];simp)))
theorem Kids.join{A B:List (Pl×Tr h)}{t:Tr h}(i:Kids A)(f:Kids ((p,t)::B))(k:∀e∈zM A,e.pl.lt p=true)(d:∀a∈A,a.1.lt p=true):Kids (A++(p,t)::B) where
 good:=λc l=>(aj.1 l).elim (i.good c) (f.good c)
 places:=ep.2 ⟨i.places,f.places,λa j b g=>by
  rcases aq.1 g with rfl|g;.exact d a j
  .exact Pl.trans (d a j) ((aR.1 f.places).1 b g)⟩
 seps:=i.seps.join f.seps k d (λb g=>(aR.1 f.places).1 b g)
theorem Kids.mid{A B:List (Pl×Tr h)}{t:Tr h}(k:Kids (A++(p,t)::B)):(∀a∈A,a.1.lt p=true)/\(∀b∈B,p.lt b.1=true)/\(∀e∈zM A,e.pl.lt p=true)/\(∀e∈zM ((p,t)::B),¬e.pl.lt p=true)/\t.First p/\
 (∀b∈B,∀e∈zM A++t.ents,e.pl.lt b.1=true)/\(∀b∈B,∀e∈b.2.ents,¬e.pl.lt b.1=true):=by
 have i:=ep.1 k.places;obtain⟨j,m,l⟩:=k.seps A p t B rfl;refine⟨λa n=>i.2.2 a n _ (am ..),(aR.1 i.2.1).1,j,m,l,λb f e c=>?_,λb f e c=>?_⟩
 .obtain⟨d,g,rfl⟩:=li f;obtain⟨q,u⟩:=b;have:=(k.seps (A++(p,t)::d) q u g (by simp)).1 e;refine this ?_;rw [zC,zp];rcases aj.1 c with c|c;.exact ac _ c
  .exact af _ (ac _ c)
 .obtain⟨d,g,rfl⟩:=li f;obtain⟨q,u⟩:=b;exact(k.seps (A++(p,t)::d) q u g (by simp)).2.1 e (by rw [zp];exact ac _ c)
theorem Kids.cons{B:List (Pl×Tr h)}{u:Tr h}(f:Kids B)(g:u.Good)(i:u.items.length<=6)(o:p.Ok)(s:u.First p)(z:∀e∈u.ents,¬e.pl.lt p=true)(n:∀b∈B,p.lt b.1=true)(x:∀b∈B,∀e∈u.ents,e.pl.lt b.1=true):Kids ((p,u)::B) where
 good:=λc d=>by
  rcases aq.1 d with rfl|d;.exact⟨g,i,o⟩
  .exact f.good c d
 places:=aR.2 ⟨n,f.places⟩
 seps:=by
  intro A q v B' e
  cases A with
  |nil=>
   simp only [aH,ee,eK] at e;obtain⟨⟨rfl,rfl⟩,rfl⟩:=e;refine⟨λj a=>(by cases a),λj a=>?_,s⟩;rw [zp] at a;rcases aj.1 a with a|a;.exact z j a
   .obtain⟨l,i,k⟩:=ii.1 a;obtain⟨c,d,rfl⟩:=av.1 i;obtain⟨w,C,rfl⟩:=li d;obtain⟨r,E⟩:=c;have:=(f.seps w r E C rfl).2.1 j (by rw [zp];exact ac _ k);exact λm=>this (Pl.trans m (n _ d))
  |cons c A=>
   simp only [a9,ee] at e;obtain⟨rfl,e⟩:=e;obtain⟨t,y,D⟩:=f.seps A q v B' e;refine⟨λj a=>?_,y,D⟩;rw [zp] at a;rcases aj.1 a with a|a;.exact x (q,v) (by rw [e];simp) j a
   .exact t j a
theorem Kids.swap{A B:List (Pl×Tr h)}{t u:Tr h}(k:Kids (A++(p,t)::B))(g:u.Good)(f:u.items.length<=6)(c:u.First p)
 (m:∀e∈u.ents,¬e.pl.lt p=true) (i:∀b∈B,∀e∈u.ents,e.pl.lt b.1=true):Kids (A++(p,u)::B):=by
 obtain⟨l,d,j,s,r,o,q⟩:=k.mid;have a:=k.right;have n:Kids B:=Kids.right (A:=[(p,t)]) a;exact k.left.join (n.cons g f (a.good (p,t) (am ..)).2.2 c m d i) j l
theorem Kids.parted{A B:List (Pl×Tr h)}{q:Pl}{t u v:Tr h}(k:Kids (A++(p,t)::B))(E:u.Good)(s:v.Good)(F:u.items.length<=6)(C:v.items.length<=6)(x:q.Ok)(l:u.First p)(j:v.First q)
 (c:p.lt q=true) (d:∀e∈u.ents,e.pl.lt q=true) (y:∀e∈v.ents,¬e.pl.lt q=true) (z:∀e∈u.ents,¬e.pl.lt p=true) (n:∀b∈B,∀e∈v.ents,e.pl.lt b.1=true) (f:∀b∈B,q.lt b.1=true):Kids (A++(p,u)::(q,v)::B):=by
 obtain⟨r,m,o,J,I,G,H⟩:=k.mid;have g:=k.right;have D:Kids B:=Kids.right (A:=[(p,t)]) g;have w:Kids ((q,v)::B):=D.cons s C x j y f n;refine k.left.join (w.cons E F (g.good (p,t) (am ..)).2.2 l z ?_ ?_) o r
 .intro b a;rcases aq.1 a with rfl|a;.exact c
  .exact m b a
 .intro b a e i;rcases aq.1 a with rfl|a;.exact d e i
  .exact Pl.trans (d e i) (f b a)
end prog
end Go.Proofs.YtcoengihaobddaaGreatDoor

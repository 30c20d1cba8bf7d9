/- Part 3 of 36 of a proof: Disk9 -/
import Derived.Test.YtcoengihaobddaaGreatDoorJb02
set_option maxHeartbeats 8000000
set_option linter.unusedVariables false
set_option linter.unusedSimpArgs false
set_option maxRecDepth 8000
namespace Go.Proofs.YtcoengihaobddaaGreatDoor
namespace disk
open Go.ChangeShapes Go.WideShapes Go.ChangeAt Go.RowKit
attribute [local go_sem ↓] Go.wp_at_zero Go.wp_at_succ
variable {D:Dk}
theorem run_copy_row{P:Program}(w:World)(t B e:TypeId)(i:TypeInfo)(z:Value)(b bytes:Nat)(C:P.underlying t=some (.slice e))(A:P.info? e=some i)(H:i.zero=some z)
 (j:i.size=b) (p:i.bytes=bytes) (q:z.cells.size=b) (x:0<b) (v:Value) (n:Nat) (h:List Value) (d:w.ownsRow 0 e b v n h) (F:∀u∈h,u.oneCell'=true)
 (y:n<=maxLen) (f:n*bytes<=140737488355328):
 ∃a c w',(Builtin.append_ #[t,t] B #[.slice none 0 0,v]).run P w=.ok (.slice a n c) w'/\w'.ownsRow 0 e b (.slice a n c) n h/\w.grownBy w' none/\
  ((Value.slice a n c).ownBlock=none\/(Value.slice a n c).ownBlock=some w.heap.size):=by
 rcases d.2 with⟨rfl,rfl⟩|⟨g,o,I,rfl,K,J,rest⟩
 .obtain rfl:h=[]:=aY (by simpa using d.1);refine⟨none,0,w,?_,aV w 0 e b,⟨rfl,rfl,rfl,aF _,λ_ _ _=>rfl⟩,.inl rfl⟩;simp [Builtin.append_,ii C,sizeOf,typeInfo,A,Builtin.lenOf,Builtin.firstCells]
 .obtain⟨L,w',s,h2,r,_,G⟩:=run_append_own_at (P:=P) w 0 t B e i z b bytes C A H j p q x (.slice none 0 0) 0 [] (aV w 0 e b) ⟨g,0,none⟩ n o h d.1 (d.cells (g:=g) rfl) F (by simpa using y) (by simpa using f) (aj _);simp only [eT,aK] at h2;have k:=G;rcases h2.2 with⟨l,D⟩|⟨M,m,E,l,_⟩;.subst l;subst D;exact⟨none,0,w',s,h2,r,k⟩
  .subst l;exact⟨_,m,w',s,h2,r,k⟩
theorem jJ{P:Program}{k:Array Oper}{m:Oper}{a:Act}{w:World}{L:Act->World->Prop}{Q:Exit->Act->World->Prop}{M:Prop}(x:m.guard=none)(s K:Operand)(t:TypeId)
 (F:m.op=.call {callee:=.builtin .append,args:=#[s,K],argTypes:=#[t,t] })
 (e:TypeId) (i:TypeInfo) (z:Value) (b bytes:Nat) (J:P.underlying t=some (.slice e)) (E:P.info? e=some i) (I:i.zero=some z)
 (g:i.size=b) (o:i.bytes=bytes) (p:z.cells.size=b) (q:0<b) (v:Value) (n:Nat) (j:List Value) (y:a.eval s=.slice none 0 0) (A:a.eval K=v) (l:w.ownsRow 0 e b v n j) (B:∀u∈j,u.oneCell'=true)
 (r:n<=maxLen) (f:n*bytes<=140737488355328)
 (h:∀c d w',w'.ownsRow 0 e b (.slice c n d) n j->w.grownBy w' none->((Value.slice c n d).ownBlock=none\/(Value.slice c n d).ownBlock=some w.heap.size)->L (a.put m.dst (.slice c n d)) w'):
 if Region.wanted m (yielded k a.tmps)=true then Oper.wp P m a w L Q else M:=by
 have G:Region.wanted m (yielded k a.tmps)=true:=by simp [Region.wanted,x]
 rw [aB G];obtain⟨c,d,w',D,h2,C,H⟩:=run_copy_row (P:=P) w t m.type e i z b bytes J E I g o p q v n j l B r f;unfold Oper.wp execOp;simp only [F,resolve,invoke,builtin,ie,iI,eD,li,aO,ig,y,A,D];exact h c d w' h2 C H
theorem zn.copied{w c i:World}{bd:Nat}{S:Nat->Prop}{z y:Option Addr}{E F:Nat}(h:zn w bd S D z y E F)(b f:Option Addr)(d g:Nat)
 (m:c.ownsRow 0 131 128 (.slice b D.bs.length d) D.bs.length D.bs.flatten)
 (j:(w.alloc (.cells #[.slice none 0 0,.slice none 0 0,.int .i64 D.fuse,.int .i64 0] 118)).drew.grownBy c none)
 (q:(Value.slice b D.bs.length d).ownBlock=none\/(Value.slice b D.bs.length d).ownBlock=some (w.heap.size+1))
 (p:i.ownsRow 0 133 129 (.slice f D.ps.length g) D.ps.length (D.ps.map zM).flatten)
 (l:(c.setCell ⟨w.heap.size,0,none⟩ (.slice b D.bs.length d)).drew.grownBy i none)
 (r:(Value.slice f D.ps.length g).ownBlock=none\/(Value.slice f D.ps.length g).ownBlock=some c.heap.size):
 zn (i.setCell ⟨w.heap.size,1,none⟩ (.slice f D.ps.length g)) w.heap.size
  (λk=>k=w.heap.size\/(Value.slice b D.bs.length d).ownBlock=some k\/(Value.slice f D.ps.length g).ownBlock=some k) {D with reads:=0} b f d g/\
  (∀k,(k=w.heap.size\/(Value.slice b D.bs.length d).ownBlock=some k\/(Value.slice f D.ps.length g).ownBlock=some k)->w.heap.size<=k)/\
  za (λ_=>False) w (i.setCell ⟨w.heap.size,1,none⟩ (.slice f D.ps.length g)):=by
 have B:=j.size;simp at B;have C:=l.size;simp at C;have k2:za (λ_=>False) (w.alloc (.cells #[.slice none 0 0,.slice none 0 0,.int .i64 D.fuse,.int .i64 0] 118)).drew c:=za.grown j (λk a=>by cases a);have k3:za (λk=>k=w.heap.size) c (c.setCell ⟨w.heap.size,0,none⟩ (.slice b D.bs.length d)):=za.setCell _ _ _ rfl;have t:za (λ_=>False) (c.setCell ⟨w.heap.size,0,none⟩ (.slice b D.bs.length d)).drew i:=za.grown l (λk a=>by cases a);have u:za (λk=>k=w.heap.size) i (i.setCell ⟨w.heap.size,1,none⟩ (.slice f D.ps.length g)):=za.setCell _ _ _ rfl
 have n:∀k,(Value.slice b D.bs.length d).ownBlock=some k->k=w.heap.size+1/\k<c.heap.size:=λk a=>⟨by
  rcases q with e|e<;>rw [e] at a<;>simp at a;omega,(m.lt k a).2⟩
 have o:∀k,(Value.slice f D.ps.length g).ownBlock=some k->k=c.heap.size:=λk a=>by rcases r with e|e<;>rw [e] at a<;>simp at a;omega
 have x:c.heap[w.heap.size]? =some (.cells #[.slice none 0 0,.slice none 0 0,.int .i64 D.fuse,.int .i64 0] 118):=
  (k2.block w.heap.size (by simp) (λs=>s)).trans (ac w _)
 have A:(c.setCell ⟨w.heap.size,0,none⟩ (.slice b D.bs.length d)).heap[w.heap.size]? =some (.cells #[.slice b D.bs.length d,.slice none 0 0,.int .i64 D.fuse,.int .i64 0] 118):=by rw [heap_setCell_same c w.heap.size 0 _ _ _ x];rfl
 have b4:i.heap[w.heap.size]? =some (.cells #[.slice b D.bs.length d,.slice none 0 0,.int .i64 D.fuse,.int .i64 0] 118):=
  (t.block w.heap.size (by simp;omega) (λs=>s)).trans A
 refine⟨⟨⟨h.ok.bs,h.ok.ps,h.ok.few⟩,?_,?_,?_,λk=>Iff.rfl,?_,?_,?_⟩,?_,?_⟩;.rw [heap_setCell_same i w.heap.size 1 _ _ _ b4];rfl
 .exact u.owns (t.owns (k3.owns m (λk a e=>by have:=(n k a).1;omega)) nF) (λk a e=>by have:=(n k a).1;omega)
 .exact u.owns p (λk a e=>by have:=o k a;omega)
 .intro a;have:=(n _ a).1;omega
 .intro a;have:=o _ a;omega
 .intro k a v;have:=(n k a).2;have:=o k v;omega
 .intro k a;rcases a with rfl|a|a;.exact aF _
  .have:=(n k a).1;omega
  .have:=o k a;omega
 .exact((((((za.alloc _ w _).trans (za.drew _ _) iL).trans k2 iL).trans k3 (λk a=>.inr (by omega))).trans (za.drew (λ_=>False) _) iL).trans t iL).trans u (λk a=>.inr (by omega))
theorem Dk.Ok.one_bs(h:D.Ok):∀u∈D.bs.flatten,u.oneCell'=true:=λu a=>by
 obtain⟨b,c,a⟩:=eW.1 a;exact(h.bs b c).2 u a
theorem Dk.Ok.one_ps(h:D.Ok):∀u∈(D.ps.map zM).flatten,u.oneCell'=true:=λu a=>by
 obtain⟨b,c,a⟩:=eW.1 a;obtain⟨p,d,rfl⟩:=au.1 c;rcases ar.1 a with rfl|a;.rfl
 .exact(h.ps p d).2.2 u a
theorem Jb(w:World)(bd:Nat)(S:Nat->Prop)(D:Dk)(A u:Option Addr)(E v:Nat)(h:zn w bd S D A u E v)(U:D.ps.length<=68719476736):
 Calls Tryz.prog 34 #[.pointer (some ⟨bd,0,none⟩)] w λe w'=>
  e=.returned (.pointer (some ⟨w.heap.size,0,none⟩))/\(∃S',zg w' w.heap.size S' {D with reads:=0}/\∀k,S' k->w.heap.size<=k)/\za (λ_=>False) w w':=by
 have W:=h.c0;have V:=h.c1;have X:=h.c2;have T:=h.lt bd h.bdS;have hbs:=h.ok.few;have p:Hid (zn w bd S D A u E v):=h;obtain⟨r,c,i,j,g⟩:=eZ Tryz.infoBlock;have o:Hid (Tryz.prog.info? 131=some r/\r.zero=some (.agg zW.toArray)/\r.size=128/\r.bytes=128):=⟨c,i,j,g⟩;clear c i j g;obtain⟨s,c,i,j,g⟩:=eZ Tryz.infoWrite;have l:Hid (Tryz.prog.info? 133=some s/\s.zero=some (.agg yq.toArray)/\s.size=129/\s.bytes=136):=⟨c,i,j,g⟩;clear c i j g h;have Y:w.heap.size≠bd:=by omega
 have C:Hid (zn (w.alloc (.cells #[.slice none 0 0,.slice none 0 0,.int .i64 D.fuse,.int .i64 0] 118)).drew bd S D A u E v):=
  p.kept ((za.alloc (λ_=>False) w _).trans (za.drew _ _) iL) nF
 go_enter Tryz.func34,Tryz.ntmps34;go_wp2
 go_region_law ((refine jJ rfl (.tmp 14) (.tmp 18) 115 rfl 131 r _ 128 128 Tryz.underlying115 o.1 o.2.1 o.2.2.1 o.2.2.2 zG.1 (by omega) _ D.bs.length D.bs.flatten (by rfl) (by rfl) (by exact C.rows) p.ok.one_bs (by unfold maxLen;omega) (by omega) ?_;intro z F d m a q;have f:d.heap[w.heap.size]? =some (.cells #[.slice none 0 0,.slice none 0 0,.int .i64 D.fuse,.int .i64 0] 118):=(a.block w.heap.size (by simp) (by simp)).trans (ac w _);have R:=aG d w.heap.size 0 _ _ _ f;have y:=aG d w.heap.size 1 _ _ _ f;have M:=aa d w.heap.size 0 _ _ f;have x:=aa d w.heap.size 1 _ _ f;have N:=(a.cell_far ⟨bd,1,none⟩ (by simp;omega) (by simp)).trans C.c1;have G:Hid ((d.setCell ⟨w.heap.size,0,none⟩ (.slice z D.bs.length F)).drew.ownsRow 0 133 129 (.slice u D.ps.length v) D.ps.length (D.ps.map zM).flatten):=(za.drew (λ_=>False) _).owns ((za.setCell (S:=λk=>k=w.heap.size) d ⟨w.heap.size,0,none⟩ _ rfl).owns ((za.grown (S:=λ_=>False) a (λk B=>by cases B)).owns C.pend nF) (λk B e=>by have:=p.lt k ((p.own k).2 (.inr (.inr B)));omega)) nF;have Z:w.heap.size<d.heap.size:=by {have:=a.size;simp at this;omega};change Hid _ at a m q;clear f))
 all_goals
  go_wp2
  go_region_law ((refine jJ rfl (.tmp 26) (.tmp 30) 116 rfl 133 s _ 129 136 Tryz.underlying116 l.1 l.2.1 l.2.2.1 l.2.2.2 (congrArg (· +1) zG.1) (by omega) _ D.ps.length (D.ps.map zM).flatten (by rfl) (by rfl) (by exact G) p.ok.one_ps (by unfold maxLen;omega) (by omega) ?_;intro H I J n b t;have P:J.cell? ⟨w.heap.size,1,none⟩=some (.slice none 0 0):=(b.cell_far ⟨w.heap.size,1,none⟩ (by simp;omega) (by simp)).trans (by simp [World.cell?_setCell_other,y]);have O:J.frozen? ⟨w.heap.size,1,none⟩=false:=(b.frozen_far ⟨w.heap.size,1,none⟩ (by simp;omega) (by simp)).trans (by simp [x]);change Hid _ at b n t))
  all_goals
   go_wp2;go_ret;obtain⟨K,Q,L⟩:=p.copied z H F I m a (by have:=q.out;simpa using this) n b (by have:=t.out;simpa using this);exact⟨rfl,⟨_,⟨z,H,F,I,K⟩,Q⟩,L⟩
end disk
end Go.Proofs.YtcoengihaobddaaGreatDoor

/- Part 3 of 36 of a proof: Disk9 -/
import Derived.Test.YtcoengihaobddaaGreatDoorJc02
set_option maxHeartbeats 8000000
set_option linter.unusedVariables false
set_option linter.unusedSimpArgs false
set_option maxRecDepth 8000
namespace Go.Proofs.YtcoengihaobddaaGreatDoor
namespace disk
open Go.ChangeShapes Go.WideShapes Go.ChangeAt Go.RowKit
attribute [local go_sem ↓] Go.wp_at_zero Go.wp_at_succ
variable {D:Dk}
theorem run_copy_row{P:Program}(w:World)(t A e:TypeId)(i:TypeInfo)(z:Value)(b bytes:Nat)(o:P.underlying t=some (.slice e))(B:P.info? e=some i)(G:i.zero=some z)
 (j:i.size=b) (s:i.bytes=bytes) (C:z.cells.size=b) (r:0<b) (v:Value) (n:Nat) (h:List Value) (d:w.ownsRow 0 e b v n h) (D:∀u∈h,u.oneCell'=true)
 (q:n<=maxLen) (f:n*bytes<=140737488355328):
 ∃a c w',(Builtin.append_ #[t,t] A #[.slice none 0 0,v]).run P w=.ok (.slice a n c) w'/\w'.ownsRow 0 e b (.slice a n c) n h/\w.grownBy w' none/\
  ((Value.slice a n c).ownBlock=none\/(Value.slice a n c).ownBlock=some w.heap.size):=by
 rcases d.2 with⟨rfl,rfl⟩|⟨g,p,I,rfl,K,L,rest⟩
 .obtain rfl:h=[]:=aY (by simpa using d.1);refine⟨none,0,w,?_,aV w 0 e b,⟨rfl,rfl,rfl,aF _,λ_ _ _=>rfl⟩,.inl rfl⟩;simp [Builtin.append_,ii o,sizeOf,typeInfo,B,Builtin.lenOf,Builtin.firstCells]
 .obtain⟨J,w',x,h2,y,_,E⟩:=run_append_own_at (P:=P) w 0 t A e i z b bytes o B G j s C r (.slice none 0 0) 0 [] (aV w 0 e b) ⟨g,0,none⟩ n p h d.1 (d.cells (g:=g) rfl) D (by simpa using q) (by simpa using f) (aj _);simp only [eT,aK] at h2;have k:=E;rcases h2.2 with⟨m,F⟩|⟨M,l,H,m,_⟩;.subst m;subst F;exact⟨none,0,w',x,h2,y,k⟩
  .subst m;exact⟨_,l,w',x,h2,y,k⟩
theorem jN{P:Program}{k:Array Oper}{m:Oper}{a:Act}{w:World}{K:Act->World->Prop}{Q:Exit->Act->World->Prop}{M:Prop}(o:m.guard=none)(s L:Operand)(t:TypeId)
 (E:m.op=.call {callee:=.builtin .append,args:=#[s,L],argTypes:=#[t,t] })
 (e:TypeId) (i:TypeInfo) (z:Value) (b bytes:Nat) (y:P.underlying t=some (.slice e)) (I:P.info? e=some i) (C:i.zero=some z)
 (g:i.size=b) (r:i.bytes=bytes) (x:z.cells.size=b) (q:0<b) (v:Value) (n:Nat) (j:List Value) (H:a.eval s=.slice none 0 0) (J:a.eval L=v) (l:w.ownsRow 0 e b v n j) (B:∀u∈j,u.oneCell'=true)
 (p:n<=maxLen) (f:n*bytes<=140737488355328)
 (h:∀d c w',w'.ownsRow 0 e b (.slice d n c) n j->w.grownBy w' none->((Value.slice d n c).ownBlock=none\/(Value.slice d n c).ownBlock=some w.heap.size)->K (a.put m.dst (.slice d n c)) w'):
 if Region.wanted m (yielded k a.tmps)=true then Oper.wp P m a w K Q else M:=by
 have D:Region.wanted m (yielded k a.tmps)=true:=by simp [Region.wanted,o]
 rw [aB D];obtain⟨d,c,w',F,h2,G,A⟩:=run_copy_row (P:=P) w t m.type e i z b bytes y I C g r x q v n j l B p f;unfold Oper.wp execOp;simp only [E,resolve,invoke,builtin,ie,iI,eD,li,aO,ig,H,J,F];exact h d c w' h2 G A
theorem zo.copied{w d i:World}{bd:Nat}{S:Nat->Prop}{A F:Option Addr}{B E:Nat}(h:zo w bd S D A F B E)(c g:Option Addr)(b f:Nat)
 (m:d.ownsRow 0 131 128 (.slice c D.bs.length b) D.bs.length D.bs.flatten)
 (j:(w.alloc (.cells #[.slice none 0 0,.slice none 0 0,.int .i64 D.fuse,.int .i64 0] 118)).drew.grownBy d none)
 (r:(Value.slice c D.bs.length b).ownBlock=none\/(Value.slice c D.bs.length b).ownBlock=some (w.heap.size+1))
 (o:i.ownsRow 0 133 129 (.slice g D.ps.length f) D.ps.length (D.ps.map zN).flatten)
 (l:(d.setCell ⟨w.heap.size,0,none⟩ (.slice c D.bs.length b)).drew.grownBy i none)
 (q:(Value.slice g D.ps.length f).ownBlock=none\/(Value.slice g D.ps.length f).ownBlock=some d.heap.size):
 zo (i.setCell ⟨w.heap.size,1,none⟩ (.slice g D.ps.length f)) w.heap.size
  (λk=>k=w.heap.size\/(Value.slice c D.bs.length b).ownBlock=some k\/(Value.slice g D.ps.length f).ownBlock=some k) {D with reads:=0} c g b f/\
  (∀k,(k=w.heap.size\/(Value.slice c D.bs.length b).ownBlock=some k\/(Value.slice g D.ps.length f).ownBlock=some k)->w.heap.size<=k)/\
  za (λ_=>False) w (i.setCell ⟨w.heap.size,1,none⟩ (.slice g D.ps.length f)):=by
 have z:=j.size;simp at z;have x:=l.size;simp at x;have k2:za (λ_=>False) (w.alloc (.cells #[.slice none 0 0,.slice none 0 0,.int .i64 D.fuse,.int .i64 0] 118)).drew d:=za.grown j (λk a=>by cases a);have k3:za (λk=>k=w.heap.size) d (d.setCell ⟨w.heap.size,0,none⟩ (.slice c D.bs.length b)):=za.setCell _ _ _ rfl;have u:za (λ_=>False) (d.setCell ⟨w.heap.size,0,none⟩ (.slice c D.bs.length b)).drew i:=za.grown l (λk a=>by cases a);have s:za (λk=>k=w.heap.size) i (i.setCell ⟨w.heap.size,1,none⟩ (.slice g D.ps.length f)):=za.setCell _ _ _ rfl
 have n:∀k,(Value.slice c D.bs.length b).ownBlock=some k->k=w.heap.size+1/\k<d.heap.size:=λk a=>⟨by
  rcases r with e|e<;>rw [e] at a<;>simp at a;omega,(m.lt k a).2⟩
 have p:∀k,(Value.slice g D.ps.length f).ownBlock=some k->k=d.heap.size:=λk a=>by rcases q with e|e<;>rw [e] at a<;>simp at a;omega
 have C:d.heap[w.heap.size]? =some (.cells #[.slice none 0 0,.slice none 0 0,.int .i64 D.fuse,.int .i64 0] 118):=
  (k2.block w.heap.size (by simp) (λt=>t)).trans (ac w _)
 have y:(d.setCell ⟨w.heap.size,0,none⟩ (.slice c D.bs.length b)).heap[w.heap.size]? =some (.cells #[.slice c D.bs.length b,.slice none 0 0,.int .i64 D.fuse,.int .i64 0] 118):=by rw [heap_setCell_same d w.heap.size 0 _ _ _ C];rfl
 have b4:i.heap[w.heap.size]? =some (.cells #[.slice c D.bs.length b,.slice none 0 0,.int .i64 D.fuse,.int .i64 0] 118):=
  (u.block w.heap.size (by simp;omega) (λt=>t)).trans y
 refine⟨⟨⟨h.ok.bs,h.ok.ps,h.ok.few⟩,?_,?_,?_,λk=>Iff.rfl,?_,?_,?_⟩,?_,?_⟩;.rw [heap_setCell_same i w.heap.size 1 _ _ _ b4];rfl
 .exact s.owns (u.owns (k3.owns m (λk a e=>by have:=(n k a).1;omega)) nF) (λk a e=>by have:=(n k a).1;omega)
 .exact s.owns o (λk a e=>by have:=p k a;omega)
 .intro a;have:=(n _ a).1;omega
 .intro a;have:=p _ a;omega
 .intro k a v;have:=(n k a).2;have:=p k v;omega
 .intro k a;rcases a with rfl|a|a;.exact aF _
  .have:=(n k a).1;omega
  .have:=p k a;omega
 .exact((((((za.alloc _ w _).trans (za.drew _ _) iL).trans k2 iL).trans k3 (λk a=>.inr (by omega))).trans (za.drew (λ_=>False) _) iL).trans u iL).trans s (λk a=>.inr (by omega))
theorem Dk.Ok.one_bs(h:D.Ok):∀u∈D.bs.flatten,u.oneCell'=true:=λu a=>by
 obtain⟨b,c,a⟩:=eW.1 a;exact(h.bs b c).2 u a
theorem Dk.Ok.one_ps(h:D.Ok):∀u∈(D.ps.map zN).flatten,u.oneCell'=true:=λu a=>by
 obtain⟨b,d,a⟩:=eW.1 a;obtain⟨p,c,rfl⟩:=au.1 d;rcases ar.1 a with rfl|a;.rfl
 .exact(h.ps p c).2.2 u a
theorem Jb(w:World)(bd:Nat)(S:Nat->Prop)(D:Dk)(y v:Option Addr)(z u:Nat)(h:zo w bd S D y v z u)(Y:D.ps.length<=68719476736):
 Calls Tryz.prog 34 #[.pointer (some ⟨bd,0,none⟩)] w λe w'=>
  e=.returned (.pointer (some ⟨w.heap.size,0,none⟩))/\(∃S',zg w' w.heap.size S' {D with reads:=0}/\∀k,S' k->w.heap.size<=k)/\za (λ_=>False) w w':=by
 have U:=h.c0;have W:=h.c1;have X:=h.c2;have Z:=h.lt bd h.bdS;have hbs:=h.ok.few;have p:Hid (zo w bd S D y v z u):=h;obtain⟨s,d,c,f,g⟩:=eZ Tryz.infoBlock;have o:Hid (Tryz.prog.info? 131=some s/\s.zero=some (.agg zX.toArray)/\s.size=128/\s.bytes=128):=⟨d,c,f,g⟩;clear d c f g;obtain⟨t,d,c,f,g⟩:=eZ Tryz.infoWrite;have m:Hid (Tryz.prog.info? 133=some t/\t.zero=some (.agg yu.toArray)/\t.size=129/\t.bytes=136):=⟨d,c,f,g⟩;clear d c f g h;have T:w.heap.size≠bd:=by omega
 have B:Hid (zo (w.alloc (.cells #[.slice none 0 0,.slice none 0 0,.int .i64 D.fuse,.int .i64 0] 118)).drew bd S D y v z u):=
  p.kept ((za.alloc (λ_=>False) w _).trans (za.drew _ _) iL) nF
 go_enter Tryz.func34,Tryz.ntmps34;go_wp2
 go_region_law ((refine jN rfl (.tmp 14) (.tmp 18) 115 rfl 131 s _ 128 128 Tryz.underlying115 o.1 o.2.1 o.2.2.1 o.2.2.2 zH.1 (by omega) _ D.bs.length D.bs.flatten (by rfl) (by rfl) (by exact B.rows) p.ok.one_bs (by unfold maxLen;omega) (by omega) ?_;intro E A j n a r;have i:j.heap[w.heap.size]? =some (.cells #[.slice none 0 0,.slice none 0 0,.int .i64 D.fuse,.int .i64 0] 118):=(a.block w.heap.size (by simp) (by simp)).trans (ac w _);have Q:=aG j w.heap.size 0 _ _ _ i;have F:=aG j w.heap.size 1 _ _ _ i;have L:=aa j w.heap.size 0 _ _ i;have C:=aa j w.heap.size 1 _ _ i;have R:=(a.cell_far ⟨bd,1,none⟩ (by simp;omega) (by simp)).trans B.c1;have I:Hid ((j.setCell ⟨w.heap.size,0,none⟩ (.slice E D.bs.length A)).drew.ownsRow 0 133 129 (.slice v D.ps.length u) D.ps.length (D.ps.map zN).flatten):=(za.drew (λ_=>False) _).owns ((za.setCell (S:=λk=>k=w.heap.size) j ⟨w.heap.size,0,none⟩ _ rfl).owns ((za.grown (S:=λ_=>False) a (λk x=>by cases x)).owns B.pend nF) (λk x e=>by have:=p.lt k ((p.own k).2 (.inr (.inr x)));omega)) nF;have V:w.heap.size<j.heap.size:=by {have:=a.size;simp at this;omega};change Hid _ at a n r;clear i))
 all_goals
  go_wp2
  go_region_law ((refine jN rfl (.tmp 26) (.tmp 30) 116 rfl 133 t _ 129 136 Tryz.underlying116 m.1 m.2.1 m.2.2.1 m.2.2.2 (congrArg (· +1) zH.1) (by omega) _ D.ps.length (D.ps.map zN).flatten (by rfl) (by rfl) (by exact I) p.ok.one_ps (by unfold maxLen;omega) (by omega) ?_;intro J H G l b q;have P:G.cell? ⟨w.heap.size,1,none⟩=some (.slice none 0 0):=(b.cell_far ⟨w.heap.size,1,none⟩ (by simp;omega) (by simp)).trans (by simp [World.cell?_setCell_other,F]);have N:G.frozen? ⟨w.heap.size,1,none⟩=false:=(b.frozen_far ⟨w.heap.size,1,none⟩ (by simp;omega) (by simp)).trans (by simp [C]);change Hid _ at b l q))
  all_goals
   go_wp2;go_ret;obtain⟨M,O,K⟩:=p.copied E J A H n a (by have:=r.out;simpa using this) l b (by have:=q.out;simpa using this);exact⟨rfl,⟨_,⟨E,J,A,H,M⟩,O⟩,K⟩
end disk
end Go.Proofs.YtcoengihaobddaaGreatDoor

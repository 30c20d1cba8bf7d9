/- Part 3 of 31 of a proof: Disk9 -/
import Derived.Test.YtcoengihaobddaaGreatDoorJm02
set_option maxHeartbeats 8000000
set_option linter.unusedVariables false
set_option linter.unusedSimpArgs false
set_option maxRecDepth 8000
namespace Go.Proofs.YtcoengihaobddaaGreatDoor
namespace disk
open Go.ChangeShapes Go.WideShapes Go.ChangeAt Go.RowKit
attribute [local go_sem ↓] Go.wp_at_zero Go.wp_at_succ
theorem run_copy_row{P:Program}(w:World)(t ty e:TypeId)(i:TypeInfo)(z:Value)(size bytes:Nat)(ht:P.underlying t=some (.slice e))(hi:P.info? e=some i)(hz:i.zero=some z)
 (hsize:i.size=size) (hby:i.bytes=bytes) (hzs:z.cells.size=size) (hsz:0<size) (v:Value) (n:Nat) (xs:List Value) (hown:w.ownsRow 0 e size v n xs) (h1:∀u∈xs,u.oneCell'=true)
 (h63:n≤maxLen) (hbytes:n*bytes≤140737488355328):
 ∃a c w',(Builtin.append_ #[t,t] ty #[.slice none 0 0,v]).run P w=.ok (.slice a n c) w'∧w'.ownsRow 0 e size (.slice a n c) n xs∧w.grownBy w' none∧
  ((Value.slice a n c).ownBlock=none∨(Value.slice a n c).ownBlock=some w.heap.size):=by
 rcases hown.2 with⟨rfl,rfl⟩|⟨g,cap,cur,rfl,hb,hg,rest⟩
 ·obtain rfl:xs=[]:=List.eq_nil_of_length_eq_zero (by simpa using hown.1)
  refine⟨none,0,w,?_,World.ownsRow_nil w 0 e size,⟨rfl,rfl,rfl,Nat.le_refl _,fun _ _ _=>rfl⟩,.inl rfl⟩
  simp [Builtin.append_,run_underlying ht,sizeOf,typeInfo,hi,Builtin.lenOf,Builtin.firstCells]
 ·obtain⟨v',w',hr,h2,h3,_,h5⟩:=run_append_own_at (P:=P) w 0 t ty e i z size bytes ht hi hz hsize hby hzs hsz (.slice none 0 0) 0 [] (World.ownsRow_nil w 0 e size) ⟨g,0,none⟩ n cap xs hown.1 (hown.cells (g:=g) rfl) h1 (by simpa using h63) (by simpa using hbytes) (Nat.zero_le _)
  simp only [Nat.zero_add,List.nil_append] at h2
  have h5':v'.ownBlock=none∨v'.ownBlock=some w.heap.size:=h5
  rcases h2.2 with⟨e1,e2⟩|⟨g',cap',cur',e1,_⟩
  ·subst e1;subst e2;exact⟨none,0,w',hr,h2,h3,h5'⟩
  ·subst e1;exact⟨_,cap',w',hr,h2,h3,h5'⟩
theorem fQ{P:Program}{ops:Array Oper}{o:Oper}{a:Act}{w:World}{K:Act→World→Prop}{Q:Exit→Act→World→Prop}{E:Prop}(hgd:o.guard=none)(s x:Operand)(t:TypeId)
 (ho:o.op=.call {callee:=.builtin .append,args:=#[s,x],argTypes:=#[t,t] })
 (e:TypeId) (i:TypeInfo) (z:Value) (size bytes:Nat) (ht:P.underlying t=some (.slice e)) (hi:P.info? e=some i) (hz:i.zero=some z)
 (hsize:i.size=size) (hby:i.bytes=bytes) (hzs:z.cells.size=size) (hsz:0<size) (v:Value) (n:Nat) (xs:List Value) (hs:a.eval s=.slice none 0 0) (hx:a.eval x=v) (hown:w.ownsRow 0 e size v n xs) (h1:∀u∈xs,u.oneCell'=true)
 (h63:n≤maxLen) (hbytes:n*bytes≤140737488355328)
 (h:∀a' c' w',w'.ownsRow 0 e size (.slice a' n c') n xs→w.grownBy w' none→((Value.slice a' n c').ownBlock=none∨(Value.slice a' n c').ownBlock=some w.heap.size)→K (a.put o.dst (.slice a' n c')) w'):
 if Region.wanted o (yielded ops a.tmps)=true then Oper.wp P o a w K Q else E:=by
 have hw:Region.wanted o (yielded ops a.tmps)=true:=by simp [Region.wanted,hgd]
 rw [if_pos hw]
 obtain⟨a',c',w',hr,h2,h3,h4⟩:=run_copy_row (P:=P) w t o.type e i z size bytes ht hi hz hsize hby hzs hsz v n xs hown h1 h63 hbytes
 unfold Oper.wp execOp
 simp only [ho,resolve,invoke,builtin,Sem.run_bind,Sem.run_pure,Result.andThen_ok,List.map_toArray,List.map_cons,List.map_nil,hs,hx,hr]
 exact h a' c' w' h2 h3 h4
theorem zn.copied{w w2 w4:World}{bd:Nat}{S:Nat→Prop}{D:Dk}{ba pa:Option Addr}{bc pc:Nat}(h:zn w bd S D ba pa bc pc)(a1 a2:Option Addr)(c1 c2:Nat)
 (hown1:w2.ownsRow 0 131 128 (.slice a1 D.bs.length c1) D.bs.length D.bs.flatten)
 (hgrow1:(w.alloc (.cells #[.slice none 0 0,.slice none 0 0,.int .i64 D.fuse,.int .i64 0] 118)).drew.grownBy w2 none)
 (hat1:(Value.slice a1 D.bs.length c1).ownBlock=none∨(Value.slice a1 D.bs.length c1).ownBlock=some (w.heap.size+1))
 (hown2:w4.ownsRow 0 133 129 (.slice a2 D.ps.length c2) D.ps.length (D.ps.map zW).flatten)
 (hgrow2:(w2.setCell ⟨w.heap.size,0,none⟩ (.slice a1 D.bs.length c1)).drew.grownBy w4 none)
 (hat2:(Value.slice a2 D.ps.length c2).ownBlock=none∨(Value.slice a2 D.ps.length c2).ownBlock=some w2.heap.size):
 zn (w4.setCell ⟨w.heap.size,1,none⟩ (.slice a2 D.ps.length c2)) w.heap.size
  (fun k=>k=w.heap.size∨(Value.slice a1 D.bs.length c1).ownBlock=some k∨(Value.slice a2 D.ps.length c2).ownBlock=some k) {D with reads:=0} a1 a2 c1 c2∧
  (∀k,(k=w.heap.size∨(Value.slice a1 D.bs.length c1).ownBlock=some k∨(Value.slice a2 D.ps.length c2).ownBlock=some k)→w.heap.size≤k)∧
  za (fun _=>False) w (w4.setCell ⟨w.heap.size,1,none⟩ (.slice a2 D.ps.length c2)):=by
 have s2:=hgrow1.size
 simp at s2
 have s4:=hgrow2.size
 simp at s4
 have k2:za (fun _=>False) (w.alloc (.cells #[.slice none 0 0,.slice none 0 0,.int .i64 D.fuse,.int .i64 0] 118)).drew w2:=za.grown hgrow1 (fun k hk=>by cases hk)
 have k3:za (fun k=>k=w.heap.size) w2 (w2.setCell ⟨w.heap.size,0,none⟩ (.slice a1 D.bs.length c1)):=za.setCell _ _ _ rfl
 have k4:za (fun _=>False) (w2.setCell ⟨w.heap.size,0,none⟩ (.slice a1 D.bs.length c1)).drew w4:=za.grown hgrow2 (fun k hk=>by cases hk)
 have k5:za (fun k=>k=w.heap.size) w4 (w4.setCell ⟨w.heap.size,1,none⟩ (.slice a2 D.ps.length c2)):=za.setCell _ _ _ rfl
 have e1:∀k,(Value.slice a1 D.bs.length c1).ownBlock=some k→k=w.heap.size+1∧k<w2.heap.size:=fun k hk=>⟨by
  rcases hat1 with e|e<;>rw [e] at hk<;>simp at hk;omega,(hown1.lt k hk).2⟩
 have e2:∀k,(Value.slice a2 D.ps.length c2).ownBlock=some k→k=w2.heap.size:=fun k hk=>by
  rcases hat2 with e|e<;>rw [e] at hk<;>simp at hk;omega
 have b2:w2.heap[w.heap.size]? =some (.cells #[.slice none 0 0,.slice none 0 0,.int .i64 D.fuse,.int .i64 0] 118):=
  (k2.block w.heap.size (by simp) (fun hf=>hf)).trans (heap_alloc_new w _)
 have b3:(w2.setCell ⟨w.heap.size,0,none⟩ (.slice a1 D.bs.length c1)).heap[w.heap.size]? =some (.cells #[.slice a1 D.bs.length c1,.slice none 0 0,.int .i64 D.fuse,.int .i64 0] 118):=by
  rw [heap_setCell_same w2 w.heap.size 0 _ _ _ b2];rfl
 have b4:w4.heap[w.heap.size]? =some (.cells #[.slice a1 D.bs.length c1,.slice none 0 0,.int .i64 D.fuse,.int .i64 0] 118):=
  (k4.block w.heap.size (by simp;omega) (fun hf=>hf)).trans b3
 refine⟨⟨⟨h.ok.bs,h.ok.ps,h.ok.few⟩,?_,?_,?_,fun k=>Iff.rfl,?_,?_,?_⟩,?_,?_⟩
 ·rw [heap_setCell_same w4 w.heap.size 1 _ _ _ b4];rfl
 ·exact k5.owns (k4.owns (k3.owns hown1 (fun k hk e=>by have:=(e1 k hk).1;omega)) nF) (fun k hk e=>by have:=(e1 k hk).1;omega)
 ·exact k5.owns hown2 (fun k hk e=>by have:=e2 k hk;omega)
 ·intro hk;have:=(e1 _ hk).1;omega
 ·intro hk;have:=e2 _ hk;omega
 ·intro k hk hk2;have:=(e1 k hk).2;have:=e2 k hk2;omega
 ·intro k hk
  rcases hk with rfl|hk|hk
  ·exact Nat.le_refl _
  ·have:=(e1 k hk).1;omega
  ·have:=e2 k hk;omega
 ·exact((((((za.alloc _ w _).trans (za.drew _ _) iL).trans k2 iL).trans k3 (fun k hk=>.inr (by omega))).trans (za.drew (fun _=>False) _) iL).trans k4 iL).trans k5 (fun k hk=>.inr (by omega))
end disk
end Go.Proofs.YtcoengihaobddaaGreatDoor

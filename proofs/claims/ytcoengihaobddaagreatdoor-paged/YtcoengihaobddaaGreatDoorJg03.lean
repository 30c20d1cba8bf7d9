/- Part 3 of 25 of a proof: Disk9 -/
import Derived.Test.YtcoengihaobddaaGreatDoorJg02
set_option maxHeartbeats 8000000
set_option linter.unusedVariables false
set_option linter.unusedSimpArgs false
set_option maxRecDepth 8000
namespace Go.Proofs.YtcoengihaobddaaGreatDoor
namespace disk
open Go.ChangeShapes Go.WideShapes Go.ChangeAt Go.RowKit
attribute [local go_sem ↓] Go.wp_at_zero Go.wp_at_succ
theorem run_copy_row{P:Program}(w:World)(t ty e:TypeId)(i:TypeInfo)(z:Value)(size bytes:Nat)(ht:P.underlying t=some (.slice e))(hi:P.info? e=some i)(hz:i.zero=some z)
 (hsize:i.size=size) (hby:i.bytes=bytes) (hzs:z.cells.size=size) (hsz:0<size) (v:Value) (n:Nat) (xs:List Value) (hown:w.ownsRow 0 e size v n xs) (h1:∀u∈xs,u.oneCell'=true)
 (h63:n≤maxLen) (hbytes:n*bytes≤140737488355328):
 ∃a c w',(Builtin.append_ #[t,t] ty #[.slice none 0 0,v]).run P w=.ok (.slice a n c) w'∧w'.ownsRow 0 e size (.slice a n c) n xs∧w.grownBy w' none∧
  ((Value.slice a n c).ownBlock=none∨(Value.slice a n c).ownBlock=some w.heap.size):=by
 rcases hown.2 with⟨rfl,rfl⟩|⟨g,cap,cur,rfl,hb,hg,rest⟩
 ·obtain rfl:xs=[]:=List.eq_nil_of_length_eq_zero (by simpa using hown.1)
  refine⟨none,0,w,?_,World.ownsRow_nil w 0 e size,⟨rfl,rfl,rfl,Nat.le_refl _,fun _ _ _=>rfl⟩,.inl rfl⟩
  simp [Builtin.append_,run_underlying ht,sizeOf,typeInfo,hi,Builtin.lenOf,Builtin.firstCells]
 ·obtain⟨v',w',hr,h2,h3,_,h5⟩:=run_append_own_at (P:=P) w 0 t ty e i z size bytes ht hi hz hsize hby hzs hsz (.slice none 0 0) 0 [] (World.ownsRow_nil w 0 e size) ⟨g,0,none⟩ n cap xs hown.1 (hown.cells (g:=g) rfl) h1 (by simpa using h63) (by simpa using hbytes) (Nat.zero_le _)
  simp only [Nat.zero_add,List.nil_append] at h2
  have h5':v'.ownBlock=none∨v'.ownBlock=some w.heap.size:=h5
  rcases h2.2 with⟨e1,e2⟩|⟨g',cap',cur',e1,_⟩
  ·subst e1;subst e2;exact⟨none,0,w',hr,h2,h3,h5'⟩
  ·subst e1;exact⟨_,cap',w',hr,h2,h3,h5'⟩
theorem uk{P:Program}{ops:Array Oper}{o:Oper}{a:Act}{w:World}{K:Act→World→Prop}{Q:Exit→Act→World→Prop}{E:Prop}(hgd:o.guard=none)(s x:Operand)(t:TypeId)
 (ho:o.op=.call {callee:=.builtin .append,args:=#[s,x],argTypes:=#[t,t] })
 (e:TypeId) (i:TypeInfo) (z:Value) (size bytes:Nat) (ht:P.underlying t=some (.slice e)) (hi:P.info? e=some i) (hz:i.zero=some z)
 (hsize:i.size=size) (hby:i.bytes=bytes) (hzs:z.cells.size=size) (hsz:0<size) (v:Value) (n:Nat) (xs:List Value) (hs:a.eval s=.slice none 0 0) (hx:a.eval x=v) (hown:w.ownsRow 0 e size v n xs) (h1:∀u∈xs,u.oneCell'=true)
 (h63:n≤maxLen) (hbytes:n*bytes≤140737488355328)
 (h:∀a' c' w',w'.ownsRow 0 e size (.slice a' n c') n xs→w.grownBy w' none→((Value.slice a' n c').ownBlock=none∨(Value.slice a' n c').ownBlock=some w.heap.size)→K (a.put o.dst (.slice a' n c')) w'):
 if Region.wanted o (yielded ops a.tmps)=true then Oper.wp P o a w K Q else E:=by
 have hw:Region.wanted o (yielded ops a.tmps)=true:=by simp [Region.wanted,hgd]
 rw [if_pos hw]
 obtain⟨a',c',w',hr,h2,h3,h4⟩:=run_copy_row (P:=P) w t o.type e i z size bytes ht hi hz hsize hby hzs hsz v n xs hown h1 h63 hbytes
 unfold Oper.wp execOp
 simp only [ho,resolve,invoke,builtin,Sem.run_bind,Sem.run_pure,Result.andThen_ok,List.map_toArray,List.map_cons,List.map_nil,hs,hx,hr]
 exact h a' c' w' h2 h3 h4
end disk
end Go.Proofs.YtcoengihaobddaaGreatDoor

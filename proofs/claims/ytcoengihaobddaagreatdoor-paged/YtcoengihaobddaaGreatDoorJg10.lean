/- Part 10 of 25 of a proof: Law9, Law7, Law10, Law11 -/
import Derived.Test.YtcoengihaobddaaGreatDoorJg09
set_option maxHeartbeats 8000000
set_option linter.unusedVariables false
set_option linter.unusedSimpArgs false
set_option maxRecDepth 8000
namespace Go.Proofs.YtcoengihaobddaaGreatDoor
namespace law
open Go.ChangeShapes Go.WideShapes Go.ChangeAt Go.RowKit disk ref book
open keys (zg zc zr zm zu)
theorem Tryz.infoPone:(Tryz.prog.info? 120).map (fun i=>(i.zero,i.size,i.bytes))=some (some (.pointer none),1,8):=by kernel_rfl
def Z0(c n:Int):Int:=if c<0 then (-(c+1)).tmod n else c.tmod n
theorem xI(w:World)(c n:Int)(hc:zt c)(hn:0<n)(hn2:n≤9223372036854775807):
 Calls Tryz.prog 58 #[.int .i64 c,.int .i64 n] w fun e w'=>e=.returned (.int .i64 (Z0 c n))∧w'=w:=by
 obtain⟨h1,h2⟩:=hc
 by_cases h:c<0
 ·have hp:Z0 c n=(-(c+1)).tmod n:=if_pos h
  have g3:(-(c+1)).tmod n= -((c+1).tmod n):=Int.neg_tmod ..
  have HPI:Hid _:=hp
  have HG:Hid _:=g3
  clear hp g3
  go_enter Tryz.func58,Tryz.ntmps58
  go_wp2
  go_ret
  exact⟨zg (by rw [HPI.out];first|rfl|rw [HG.out]),rfl⟩
 ·have hp:Z0 c n=c.tmod n:=if_neg h
  have g3:c.tmod n=c%n:=Int.tmod_eq_emod_of_nonneg (by omega)
  have HPI:Hid _:=hp
  have HG:Hid _:=g3
  clear hp g3
  go_enter Tryz.func58,Tryz.ntmps58
  go_wp2
  go_ret
  exact⟨zg (by rw [HPI.out];first|rfl|rw [HG.out]),rfl⟩
def Xz(bd bs rb:Nat):qW:=⟨vA bd,vA bs,vA rb,.pointer none,.string ByteArray.empty,.int .i64 0,.bool false,.slice none 0 0,0,0,false⟩
theorem Tryz.infoOp:(Tryz.prog.info? 81).map (fun i=>(i.zero,i.size,i.bytes))=some (some (.agg #[.int .i64 0,.int .i64 0,.int .i64 0,.int .i64 0,.string ByteArray.empty,.string ByteArray.empty,.slice none 0 0,.slice none 0 0]),8,112):=by kernel_rfl
structure Xf (w:World) (Q:Nat→Prop) (a:Option Addr) (ods:List dy):Prop where
 each:∀i (hi:i<ods.length),∃b o,a=some ⟨b,o,none⟩∧Q b∧b<w.heap.size∧w.rangeAt b (o+i*8) ods[i].cells
 ok:∀i (hi:i<ods.length),ods[i].Ok w Q
def dy.spare(o:dy):dy:=if o.kind=1 then {o with C:=0} else o
structure Xs (w:World) (kb:Nat) (kl:List Int):Prop where
 at_:w.heap[kb]? =some (.cells (kl.map (Value.int .i64)).toArray 3 (0,0))
structure Xt (w wr:World) (ods:List dy) (k:Nat) (x:Value):Prop where
 kept:za (fun _=>False) w wr
 row:∃a c,x=.slice a k c∧wr.ownsRow 0 81 8 (.slice a k c) k (((ods.take k).map dy.spare).map dy.cells).flatten∧∀g,(Value.slice a k c).ownBlock=some g→w.heap.size≤g
end law
end Go.Proofs.YtcoengihaobddaaGreatDoor

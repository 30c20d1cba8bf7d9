/- Part 10 of 25 of a proof: Law9, Law7, Law10, Law11 -/
import Derived.Test.YtcoengihaobddaaGreatDoorJg09
set_option maxHeartbeats 8000000
set_option linter.unusedVariables false
set_option linter.unusedSimpArgs false
set_option maxRecDepth 8000
namespace Go.Proofs.YtcoengihaobddaaGreatDoor
namespace law
open Go.ChangeShapes Go.WideShapes Go.ChangeAt Go.RowKit disk ref book
open keys (zg zc zs zm zv)
theorem Tryz.infoPone:(Tryz.prog.info? 120).map (fun i=>(i.zero,i.size,i.bytes))=some (some (.pointer none),1,8):=by kernel_rfl
def Qh(c n:Int):Int:=if c<0 then (-(c+1)).tmod n else c.tmod n
theorem xR(w:World)(c n:Int)(hc:zu c)(hn:0<n)(hn2:n≤9223372036854775807):
 Calls Tryz.prog 58 #[.int .i64 c,.int .i64 n] w fun e w'=>e=.returned (.int .i64 (Qh c n))∧w'=w:=by
 obtain⟨h1,h2⟩:=hc
 by_cases h:c<0
 ·have hp:Qh c n=(-(c+1)).tmod n:=if_pos h
  have g3:(-(c+1)).tmod n= -((c+1).tmod n):=Int.neg_tmod ..
  have HPI:Hid _:=hp
  have HG:Hid _:=g3
  clear hp g3
  go_enter Tryz.func58,Tryz.ntmps58
  go_wp2
  go_ret
  exact⟨zg (by rw [HPI.out];first|rfl|rw [HG.out]),rfl⟩
 ·have hp:Qh c n=c.tmod n:=if_neg h
  have g3:c.tmod n=c%n:=Int.tmod_eq_emod_of_nonneg (by omega)
  have HPI:Hid _:=hp
  have HG:Hid _:=g3
  clear hp g3
  go_enter Tryz.func58,Tryz.ntmps58
  go_wp2
  go_ret
  exact⟨zg (by rw [HPI.out];first|rfl|rw [HG.out]),rfl⟩
def XA(bd bs rb:Nat):qd:=⟨vM bd,vM bs,vM rb,.pointer none,.string ByteArray.empty,.int .i64 0,.bool false,.slice none 0 0,0,0,false⟩
theorem gK.rowAt{M:zi}{w:World}{base bp t:Nat}{ones:List (Nat×(Nat→Prop))}{la:Option Addr}{lc:Nat}{F H:Nat→Prop}{a b:Option Addr}{ca cb:Nat}{es vs:List gw}(p:gK M w base bp t ones la lc F H a b ca cb es vs)(hn:0<ones.length):∃g,la=some ⟨g,0,none⟩:=by
 rcases p.row.2 with⟨h0,h1⟩|⟨g,cap',cur,hv,_⟩
 ·omega
 ·cases hv;exact⟨g,rfl⟩
theorem Tryz.infoOp:(Tryz.prog.info? 81).map (fun i=>(i.zero,i.size,i.bytes))=some (some (.agg #[.int .i64 0,.int .i64 0,.int .i64 0,.int .i64 0,.string ByteArray.empty,.string ByteArray.empty,.slice none 0 0,.slice none 0 0]),8,112):=by kernel_rfl
structure dU (w:World) (Q:Nat→Prop) (a:Option Addr) (ods:List ke):Prop where
 each:∀i (hi:i<ods.length),∃b o,a=some ⟨b,o,none⟩∧Q b∧b<w.heap.size∧w.rangeAt b (o+i*8) ods[i].cells
 ok:∀i (hi:i<ods.length),ods[i].Ok w Q
theorem dU.kept{w w':World}{Q T:Nat→Prop}{a:Option Addr}{ods:List ke}(h:dU w Q a ods)(k:za T w w')(hn:∀i,Q i→¬T i):dU w' Q a ods:=
 ⟨fun i hi=>by
  obtain⟨b,o,h1,h2,h3,h4⟩:=h.each i hi
  exact⟨b,o,h1,h2,Nat.lt_of_lt_of_le h3 k.size,fun j v hv=>(k.cell (a:=⟨b,o+i*8+j,none⟩) h3 (hn b h2)).trans (h4 j v hv)⟩,fun i hi=>(h.ok i hi).kept k hn⟩
def ke.spare(o:ke):ke:=if o.kind=1 then {o with C:=0} else o
structure vQ (w:World) (kb:Nat) (kl:List Int):Prop where
 at_:w.heap[kb]? =some (.cells (kl.map (Value.int .i64)).toArray 3 (0,0))
theorem vQ.lt{w:World}{kb:Nat}{kl:List Int}(h:vQ w kb kl):kb<w.heap.size:=(lT h.at_)
theorem vQ.kept{w w':World}{T:Nat→Prop}{kb:Nat}{kl:List Int}(h:vQ w kb kl)(k:za T w w')(hn:¬T kb):vQ w' kb kl:=⟨(k.block kb h.lt hn).trans h.at_⟩
theorem vQ.cell{w:World}{kb:Nat}{kl:List Int}(h:vQ w kb kl)(j:Nat)(hj:j<kl.length):w.cell? ⟨kb,j,none⟩=some (.int .i64 kl[j]):=by
 rw [cell_of_row w kb j _ _ _ h.at_];simp [hj]
structure Xu (w wr:World) (ods:List ke) (k:Nat) (x:Value):Prop where
 kept:za (fun _=>False) w wr
 row:∃a c,x=.slice a k c∧wr.ownsRow 0 81 8 (.slice a k c) k (((ods.take k).map ke.spare).map ke.cells).flatten∧∀g,(Value.slice a k c).ownBlock=some g→w.heap.size≤g
end law
end Go.Proofs.YtcoengihaobddaaGreatDoor

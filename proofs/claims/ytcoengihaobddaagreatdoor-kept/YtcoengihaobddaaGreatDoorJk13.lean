/- Part 13 of 34 of a proof: Play, Law9, Law7, Law10, Law11 -/
import Derived.Test.YtcoengihaobddaaGreatDoorJk12
set_option maxHeartbeats 8000000
set_option linter.unusedVariables false
set_option linter.unusedSimpArgs false
set_option maxRecDepth 8000
namespace Go.Proofs.YtcoengihaobddaaGreatDoor
namespace law
open Go.RowKit disk ref book
structure bA (M:zc) (w:World) (base bp t:Nat) (ones:List (Nat×(Nat→Prop))) (la:Option Addr) (lc:Nat) (F H:Nat→Prop) (a b:Option Addr) (ca cb:Nat) (es vs:List dY):Prop where
 row:w.ownsRow 0 120 1 (.slice la ones.length lc) ones.length (ones.map fun o=>gC o.1)
 book:X3 w bp (.slice la ones.length lc) F H a b ca cb es vs
 one:∀i (hi:i<ones.length),One M w ones[i].2 ones[i].1 t
 apart:∀i j (hi:i<ones.length) (hj:j<ones.length),i≠j→∀k,ones[i].2 k→¬ones[j].2 k
 sep:∀i (hi:i<ones.length) k,ones[i].2 k→¬F k∧¬H k∧k≠bp
 rsep:∀i (hi:i<ones.length) k,ones[i].2 k→(Value.slice la ones.length lc).ownBlock≠some k
 rowF:∀k,(Value.slice la ones.length lc).ownBlock=some k→¬F k∧¬H k∧k≠bp∧base≤k
 bX:∀i (hi:i<ones.length) k,ones[i].2 k→base≤k
 bF:∀k,F k→base≤k
 bH:∀k,H k→base≤k
 bP:base≤bp
 fewE:es.length≤t
 fewV:vs.length≤t
 fewO:ones.length≤t
def VZ(M:zc)(w:World)(base bp t:Nat):Prop:=∃ones la lc F H a b ca cb es vs,bA M w base bp t ones la lc F H a b ca cb es vs
theorem One.lt{M:zc}{w:World}{X:Nat→Prop}{bo t:Nat}(o:One M w X bo t):∀k,X k→k<w.heap.size:=by
 obtain⟨h,bd,D,S,R,ib,V,last,o⟩:=o;exact o.xlt
end law
namespace law
open Go.ChangeShapes Go.WideShapes Go.ChangeAt Go.RowKit disk ref book
open keys (ze zd zr zn zu)
theorem Tryz.infoPone:(Tryz.prog.info? 120).map (fun i=>(i.zero,i.size,i.bytes))=some (some (.pointer none),1,8):=by kernel_rfl
def Ji(c n:Int):Int:=if c<0 then (-(c+1)).tmod n else c.tmod n
theorem vp(w:World)(c n:Int)(hc:zD c)(hn:0<n)(hn2:n≤9223372036854775807):
 Calls Tryz.prog 58 #[.int .i64 c,.int .i64 n] w fun e w'=>e=.returned (.int .i64 (Ji c n))∧w'=w:=by
 obtain⟨h1,h2⟩:=hc
 by_cases h:c<0
 ·have hp:Ji c n=(-(c+1)).tmod n:=if_pos h
  have g3:(-(c+1)).tmod n= -((c+1).tmod n):=Int.neg_tmod ..
  have HPI:Hid _:=hp
  have HG:Hid _:=g3
  clear hp g3
  go_enter Tryz.func58,Tryz.ntmps58
  go_wp2
  go_ret
  exact⟨ze (by rw [HPI.out];first|rfl|rw [HG.out]),rfl⟩
 ·have hp:Ji c n=c.tmod n:=if_neg h
  have g3:c.tmod n=c%n:=Int.tmod_eq_emod_of_nonneg (by omega)
  have HPI:Hid _:=hp
  have HG:Hid _:=g3
  clear hp g3
  go_enter Tryz.func58,Tryz.ntmps58
  go_wp2
  go_ret
  exact⟨ze (by rw [HPI.out];first|rfl|rw [HG.out]),rfl⟩
def Ug(bd bs rb:Nat):qG:=⟨gC bd,gC bs,gC rb,.pointer none,.string ByteArray.empty,.int .i64 0,.bool false,.slice none 0 0,0,0,false⟩
theorem bA.rowAt{M:zc}{w:World}{base bp t:Nat}{ones:List (Nat×(Nat→Prop))}{la:Option Addr}{lc:Nat}{F H:Nat→Prop}{a b:Option Addr}{ca cb:Nat}{es vs:List dY}(p:bA M w base bp t ones la lc F H a b ca cb es vs)(hn:0<ones.length):∃g,la=some ⟨g,0,none⟩:=by
 rcases p.row.2 with⟨h0,h1⟩|⟨g,cap',cur,hv,_⟩
 ·omega
 ·cases hv;exact⟨g,rfl⟩
theorem Tryz.infoOp:(Tryz.prog.info? 81).map (fun i=>(i.zero,i.size,i.bytes))=some (some (.agg #[.int .i64 0,.int .i64 0,.int .i64 0,.int .i64 0,.string ByteArray.empty,.string ByteArray.empty,.slice none 0 0,.slice none 0 0]),8,112):=by kernel_rfl
structure Qz (w:World) (Q:Nat→Prop) (a:Option Addr) (ods:List v7):Prop where
 each:∀i (hi:i<ods.length),∃b o,a=some ⟨b,o,none⟩∧Q b∧b<w.heap.size∧w.rangeAt b (o+i*8) ods[i].cells
 ok:∀i (hi:i<ods.length),ods[i].Ok w Q
theorem Qz.kept{w w':World}{Q T:Nat→Prop}{a:Option Addr}{ods:List v7}(h:Qz w Q a ods)(k:Kept T w w')(hn:∀i,Q i→¬T i):Qz w' Q a ods:=
 ⟨fun i hi=>by
  obtain⟨b,o,h1,h2,h3,h4⟩:=h.each i hi
  exact⟨b,o,h1,h2,Nat.lt_of_lt_of_le h3 k.size,fun j v hv=>(k.cell (a:=⟨b,o+i*8+j,none⟩) h3 (hn b h2)).trans (h4 j v hv)⟩,fun i hi=>(h.ok i hi).kept k hn⟩
def v7.spare(o:v7):v7:=if o.kind=1 then {o with C:=0} else o
structure gM (w:World) (kb:Nat) (kl:List Int):Prop where
 at_:w.heap[kb]? =some (.cells (kl.map (Value.int .i64)).toArray 3 (0,0))
theorem gM.lt{w:World}{kb:Nat}{kl:List Int}(h:gM w kb kl):kb<w.heap.size:=(lT h.at_)
theorem gM.kept{w w':World}{T:Nat→Prop}{kb:Nat}{kl:List Int}(h:gM w kb kl)(k:Kept T w w')(hn:¬T kb):gM w' kb kl:=⟨(k.block kb h.lt hn).trans h.at_⟩
theorem gM.cell{w:World}{kb:Nat}{kl:List Int}(h:gM w kb kl)(j:Nat)(hj:j<kl.length):w.cell? ⟨kb,j,none⟩=some (.int .i64 kl[j]):=by
 rw [cell_of_row w kb j _ _ _ h.at_];simp [hj]
structure V0 (w wr:World) (ods:List v7) (k:Nat) (x:Value):Prop where
 kept:Kept (fun _=>False) w wr
 row:∃a c,x=.slice a k c∧wr.ownsRow 0 81 8 (.slice a k c) k (((ods.take k).map v7.spare).map v7.cells).flatten∧∀g,(Value.slice a k c).ownBlock=some g→w.heap.size≤g
end law
end Go.Proofs.YtcoengihaobddaaGreatDoor

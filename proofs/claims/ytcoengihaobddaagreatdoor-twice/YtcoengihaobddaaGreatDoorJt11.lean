/- Part 11 of 26 of a proof: Law8, Play, Law9, Law7 -/
import Derived.Test.YtcoengihaobddaaGreatDoorJt07
set_option maxHeartbeats 8000000
set_option linter.unusedVariables false
set_option linter.unusedSimpArgs false
set_option maxRecDepth 8000
namespace Go.Proofs.YtcoengihaobddaaGreatDoor
namespace law
open Go.ChangeShapes Go.WideShapes Go.ChangeAt Go.RowKit disk ref book
open keys (zj zc zs zm zr)
end law
namespace law
open Go.RowKit disk ref book
structure fe (M:ze) (w:World) (base bp t:Nat) (ones:List (Nat×(Nat→Prop))) (la:Option Addr) (lc:Nat) (F H:Nat→Prop) (a b:Option Addr) (ca cb:Nat) (es vs:List gU):Prop where
 row:w.ownsRow 0 120 1 (.slice la ones.length lc) ones.length (ones.map fun o=>vW o.1)
 book:Qz w bp (.slice la ones.length lc) F H a b ca cb es vs
 one:∀i (hi:i<ones.length),One M w ones[i].2 ones[i].1 t
 apart:∀i j (hi:i<ones.length) (hj:j<ones.length),i≠j→∀k,ones[i].2 k→¬ones[j].2 k
 sep:∀i (hi:i<ones.length) k,ones[i].2 k→¬F k∧¬H k∧k≠bp
 rsep:∀i (hi:i<ones.length) k,ones[i].2 k→(Value.slice la ones.length lc).ownBlock≠some k
 rowF:∀k,(Value.slice la ones.length lc).ownBlock=some k→¬F k∧¬H k∧k≠bp∧base≤k
 bX:∀i (hi:i<ones.length) k,ones[i].2 k→base≤k
 bF:∀k,F k→base≤k
 bH:∀k,H k→base≤k
 bP:base≤bp
 fewE:es.length≤t
 fewV:vs.length≤t
 fewO:ones.length≤t
def X2(M:ze)(w:World)(base bp t:Nat):Prop:=∃ones la lc F H a b ca cb es vs,fe M w base bp t ones la lc F H a b ca cb es vs
theorem One.lt{M:ze}{w:World}{X:Nat→Prop}{bo t:Nat}(o:One M w X bo t):∀k,X k→k<w.heap.size:=by
 obtain⟨h,bd,D,S,R,ib,V,last,o⟩:=o;exact o.xlt
end law
namespace law
open Go.ChangeShapes Go.WideShapes Go.ChangeAt Go.RowKit disk ref book
open keys (zj zc zs zm zr)
theorem Tryz.infoPone:(Tryz.prog.info? 120).map (fun i=>(i.zero,i.size,i.bytes))=some (some (.pointer none),1,8):=by kernel_rfl
def QL(c n:Int):Int:=if c<0 then (-(c+1)).tmod n else c.tmod n
theorem fQ(w:World)(c n:Int)(hc:zF c)(hn:0<n)(hn2:n≤9223372036854775807):
 Calls Tryz.prog 58 #[.int .i64 c,.int .i64 n] w fun e w'=>e=.returned (.int .i64 (QL c n))∧w'=w:=by
 obtain⟨h1,h2⟩:=hc
 by_cases h:c<0
 ·have hp:QL c n=(-(c+1)).tmod n:=if_pos h
  have g3:(-(c+1)).tmod n= -((c+1).tmod n):=Int.neg_tmod ..
  have HPI:Hid _:=hp
  have HG:Hid _:=g3
  clear hp g3
  go_enter Tryz.func58,Tryz.ntmps58
  go_wp2
  go_ret
  exact⟨zj (by rw [HPI.out];first|rfl|rw [HG.out]),rfl⟩
 ·have hp:QL c n=c.tmod n:=if_neg h
  have g3:c.tmod n=c%n:=Int.tmod_eq_emod_of_nonneg (by omega)
  have HPI:Hid _:=hp
  have HG:Hid _:=g3
  clear hp g3
  go_enter Tryz.func58,Tryz.ntmps58
  go_wp2
  go_ret
  exact⟨zj (by rw [HPI.out];first|rfl|rw [HG.out]),rfl⟩
def Jb(bd bs rb:Nat):qd:=⟨vW bd,vW bs,vW rb,.pointer none,.string ByteArray.empty,.int .i64 0,.bool false,.slice none 0 0,0,0,false⟩
end law
end Go.Proofs.YtcoengihaobddaaGreatDoor

/- Part 11 of 31 of a proof: Play, Law9, Law7, Law10, Law11 -/
import Derived.Test.YtcoengihaobddaaGreatDoorJm10
set_option maxHeartbeats 8000000
set_option linter.unusedVariables false
set_option linter.unusedSimpArgs false
set_option maxRecDepth 8000
namespace Go.Proofs.YtcoengihaobddaaGreatDoor
namespace law
open Go.RowKit disk ref book
structure bu (M:zg) (w:World) (base bp t:Nat) (ones:List (Nat×(Nat→Prop))) (la:Option Addr) (lc:Nat) (F H:Nat→Prop) (a b:Option Addr) (ca cb:Nat) (es vs:List dV):Prop where
 row:w.ownsRow 0 120 1 (.slice la ones.length lc) ones.length (ones.map fun o=>gG o.1)
 book:XN w bp (.slice la ones.length lc) F H a b ca cb es vs
 one:∀i (hi:i<ones.length),One M w ones[i].2 ones[i].1 t
 apart:∀i j (hi:i<ones.length) (hj:j<ones.length),i≠j→∀k,ones[i].2 k→¬ones[j].2 k
 sep:∀i (hi:i<ones.length) k,ones[i].2 k→¬F k∧¬H k∧k≠bp
 rsep:∀i (hi:i<ones.length) k,ones[i].2 k→(Value.slice la ones.length lc).ownBlock≠some k
 rowF:∀k,(Value.slice la ones.length lc).ownBlock=some k→¬F k∧¬H k∧k≠bp∧base≤k
 bX:∀i (hi:i<ones.length) k,ones[i].2 k→base≤k
 bF:∀k,F k→base≤k
 bH:∀k,H k→base≤k
 bP:base≤bp
 fewE:es.length≤t
 fewV:vs.length≤t
 fewO:ones.length≤t
def VH(M:zg)(w:World)(base bp t:Nat):Prop:=∃ones la lc F H a b ca cb es vs,bu M w base bp t ones la lc F H a b ca cb es vs
theorem One.lt{M:zg}{w:World}{X:Nat→Prop}{bo t:Nat}(o:One M w X bo t):∀k,X k→k<w.heap.size:=by
 obtain⟨h,bd,D,S,R,ib,V,last,o⟩:=o;exact o.xlt
end law
namespace law
open Go.ChangeShapes Go.WideShapes Go.ChangeAt Go.RowKit disk ref book
open keys (zj zd zA zq zs)
theorem Tryz.infoPone:(Tryz.prog.info? 120).map (fun i=>(i.zero,i.size,i.bytes))=some (some (.pointer none),1,8):=by kernel_rfl
def XX(c n:Int):Int:=if c<0 then (-(c+1)).tmod n else c.tmod n
theorem xd(w:World)(c n:Int)(hc:zG c)(hn:0<n)(hn2:n≤9223372036854775807):
 Calls Tryz.prog 58 #[.int .i64 c,.int .i64 n] w fun e w'=>e=.returned (.int .i64 (XX c n))∧w'=w:=by
 obtain⟨h1,h2⟩:=hc
 by_cases h:c<0
 ·have hp:XX c n=(-(c+1)).tmod n:=if_pos h
  have g3:(-(c+1)).tmod n= -((c+1).tmod n):=Int.neg_tmod ..
  have HPI:Hid _:=hp
  have HG:Hid _:=g3
  clear hp g3
  go_enter Tryz.func58,Tryz.ntmps58
  go_wp2
  go_ret
  exact⟨zj (by rw [HPI.out];first|rfl|rw [HG.out]),rfl⟩
 ·have hp:XX c n=c.tmod n:=if_neg h
  have g3:c.tmod n=c%n:=Int.tmod_eq_emod_of_nonneg (by omega)
  have HPI:Hid _:=hp
  have HG:Hid _:=g3
  clear hp g3
  go_enter Tryz.func58,Tryz.ntmps58
  go_wp2
  go_ret
  exact⟨zj (by rw [HPI.out];first|rfl|rw [HG.out]),rfl⟩
def VO(bd bs rb:Nat):qD:=⟨gG bd,gG bs,gG rb,.pointer none,.string ByteArray.empty,.int .i64 0,.bool false,.slice none 0 0,0,0,false⟩
theorem bu.rowAt{M:zg}{w:World}{base bp t:Nat}{ones:List (Nat×(Nat→Prop))}{la:Option Addr}{lc:Nat}{F H:Nat→Prop}{a b:Option Addr}{ca cb:Nat}{es vs:List dV}(p:bu M w base bp t ones la lc F H a b ca cb es vs)(hn:0<ones.length):∃g,la=some ⟨g,0,none⟩:=by
 rcases p.row.2 with⟨h0,h1⟩|⟨g,cap',cur,hv,_⟩
 ·omega
 ·cases hv;exact⟨g,rfl⟩
theorem Tryz.infoOp:(Tryz.prog.info? 81).map (fun i=>(i.zero,i.size,i.bytes))=some (some (.agg #[.int .i64 0,.int .i64 0,.int .i64 0,.int .i64 0,.string ByteArray.empty,.string ByteArray.empty,.slice none 0 0,.slice none 0 0]),8,112):=by kernel_rfl
structure Qi (w:World) (Q:Nat→Prop) (a:Option Addr) (ods:List jz):Prop where
 each:∀i (hi:i<ods.length),∃b o,a=some ⟨b,o,none⟩∧Q b∧b<w.heap.size∧w.rangeAt b (o+i*8) ods[i].cells
 ok:∀i (hi:i<ods.length),ods[i].Ok w Q
theorem Qi.kept{w w':World}{Q T:Nat→Prop}{a:Option Addr}{ods:List jz}(h:Qi w Q a ods)(k:za T w w')(hn:∀i,Q i→¬T i):Qi w' Q a ods:=
 ⟨fun i hi=>by
  obtain⟨b,o,h1,h2,h3,h4⟩:=h.each i hi
  exact⟨b,o,h1,h2,Nat.lt_of_lt_of_le h3 k.size,fun j v hv=>(k.cell (a:=⟨b,o+i*8+j,none⟩) h3 (hn b h2)).trans (h4 j v hv)⟩,fun i hi=>(h.ok i hi).kept k hn⟩
def jz.spare(o:jz):jz:=if o.kind=1 then {o with C:=0} else o
theorem jz.Ok.spare{w:World}{Q:Nat→Prop}{o:jz}(h:o.Ok w Q):o.spare.Ok w Q:=by
 unfold jz.spare
 split
 ·exact⟨h.kind,h.A,h.B,⟨by show (-9223372036854775808:Int)≤0;omega,by show (0:Int)≤9223372036854775807;omega⟩,h.S,h.P,h.l,h.len,h.klen,h.ks⟩
 ·exact h
structure gN (w:World) (kb:Nat) (kl:List Int):Prop where
 at_:w.heap[kb]? =some (.cells (kl.map (Value.int .i64)).toArray 3 (0,0))
theorem gN.lt{w:World}{kb:Nat}{kl:List Int}(h:gN w kb kl):kb<w.heap.size:=(lT h.at_)
theorem gN.kept{w w':World}{T:Nat→Prop}{kb:Nat}{kl:List Int}(h:gN w kb kl)(k:za T w w')(hn:¬T kb):gN w' kb kl:=⟨(k.block kb h.lt hn).trans h.at_⟩
theorem gN.cell{w:World}{kb:Nat}{kl:List Int}(h:gN w kb kl)(j:Nat)(hj:j<kl.length):w.cell? ⟨kb,j,none⟩=some (.int .i64 kl[j]):=by
 rw [cell_of_row w kb j _ _ _ h.at_];simp [hj]
structure KH (w wr:World) (ods:List jz) (k:Nat) (x:Value):Prop where
 kept:za (fun _=>False) w wr
 row:∃a c,x=.slice a k c∧wr.ownsRow 0 81 8 (.slice a k c) k (((ods.take k).map jz.spare).map jz.cells).flatten∧∀g,(Value.slice a k c).ownBlock=some g→w.heap.size≤g
theorem Qj(ods:List jz)(k:Nat)(h:k<ods.length):(((ods.take (k+1)).map jz.spare).map jz.cells).flatten=(((ods.take k).map jz.spare).map jz.cells).flatten++ods[k].spare.cells:=by
 rw [List.take_succ_eq_append_getElem h];simp only [List.map_append,List.map_cons,List.map_nil,List.flatten_append,List.flatten_cons,List.flatten_nil,List.append_nil]
theorem KH.pushed{w wr w3:World}{ods:List jz}{k:Nat}{a1:Option Addr}{c1:Nat}(hk:k<ods.length)(hkept:za (fun _=>False) w wr)(hnew:∀g,(Value.slice a1 k c1).ownBlock=some g→w.heap.size≤g)(o1 o2:Obj)(g c2:Nat)
 (hown:w3.ownsRow 0 81 8 (.slice (some ⟨g,0,none⟩) (k+1) c2) (k+1) ((((ods.take k).map jz.spare).map jz.cells).flatten++ods[k].spare.cells)) (hgrow:((wr.alloc o1).alloc o2).grownBy w3 (Value.slice a1 k c1).ownBlock) (hat:(Value.slice a1 k c1).ownBlock=some g∨g=((wr.alloc o1).alloc o2).heap.size):
 KH w w3 ods (k+1) (.slice (some ⟨g,0,none⟩) (k+1) c2):=by
 have k2:za (fun k=>w.heap.size≤k) wr w3:=((za.alloc _ wr o1).trans (za.alloc _ _ o2) iL).trans (za.grown (S:=fun k=>w.heap.size≤k) hgrow (fun k hk=>hnew k hk)) iL
 refine⟨hkept.trans k2 (fun k hk=>.inr hk),_,c2,rfl,by rw [Qj ods k hk];exact hown,fun g' hg=>?_⟩
 simp [Value.ownBlock] at hg
 subst hg
 rcases hat with e|e
 ·exact hnew _ e
 ·have:=hkept.size;simp at e;omega
end law
end Go.Proofs.YtcoengihaobddaaGreatDoor

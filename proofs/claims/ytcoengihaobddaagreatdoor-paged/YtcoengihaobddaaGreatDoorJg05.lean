/- Part 5 of 25 of a proof: Book2, Book3, Append2, Book4, Lent, Law1 -/
import Derived.Test.YtcoengihaobddaaGreatDoorJg04
import Derived.Deep.RegionWith
import Derived.Lib.SliceRun
set_option maxHeartbeats 8000000
set_option linter.unusedVariables false
set_option linter.unusedSimpArgs false
set_option maxRecDepth 8000
namespace Go.Proofs.YtcoengihaobddaaGreatDoor
namespace book
open Go.ChangeShapes Go.WideShapes Go.ChangeAt Go.RowKit disk ref
open keys (zg zc zr zm)
structure Q7 where
 g:Nat
 ss:List (Option Addr×Nat×Nat)
 P:Nat→Prop
def Q7.val(e:Q7):Value:=.slice (some ⟨e.g,0,none⟩) e.ss.length 4
structure YQ (w:World) (F:Nat→Prop) (v:Value) (es:List Q7) (m:Nat→Int):Prop where
 row:w.ownsRow 0 179 1 v es.length (es.map Q7.val)
 lets:∀i (hi:i<es.length),un w es[i].P es[i].g es[i].ss
 are:∀i (hi:i<es.length),un.Are w es[i].ss (.int .u8 (m i))
 apart:∀i j (hi:i<es.length) (hj:j<es.length),i≠j→∀k,es[i].P k→¬es[j].P k∧k≠es[j].g
 row2:∀i (hi:i<es.length) k,es[i].P k→v.ownBlock≠some k
 foot:∀i (hi:i<es.length),F es[i].g∧∀k,es[i].P k→F k
 foot2:∀k,v.ownBlock=some k→F k
structure ZP (w:World) (bp:Nat) (l a b:Value):Prop where
 head:w.heap[bp]? =some (.cells #[l,a,b] 79 (0,0))
def YR:ByteArray:=⟨#[40,109,105,110,101,41]⟩
def YS(i:Nat):List Value:=[.string YR,.int .i64 (i:Int),.bool false,.int .i64 0]
structure Xc (w:World) (P:Nat→Prop) (g:Nat) (ss:List (Option Addr×Nat×Nat)) (i:Nat):Prop where
 head:w.heap[g]? =some (.cells (ss.map ZO).toArray 44 (0,0))
 are:∀s∈ss,∀j,j<s.2.1→∃b,s.1=some ⟨b,0,none⟩∧P b∧b<w.heap.size∧w.rangeAt b (j*4) (YS i)
 few:∀s∈ss,s.2.1≤9223372036854775807
 len:ss.length≤100
structure YT (w:World) (F:Nat→Prop) (v:Value) (es:List Q7):Prop where
 row:w.ownsRow 0 129 1 v es.length (es.map Q7.val)
 vets:∀i (hi:i<es.length),Xc w es[i].P es[i].g es[i].ss i
 foot:∀i (hi:i<es.length),F es[i].g∧∀k,es[i].P k→F k
 foot2:∀k,v.ownBlock=some k→F k
 row2:∀i (hi:i<es.length) k,es[i].P k→v.ownBlock≠some k
structure YU (w:World) (bp:Nat) (l:Value) (F H:Nat→Prop) (a b:Option Addr) (ca cb:Nat) (es vs:List Q7):Prop where
 head:ZP w bp l (.slice a es.length ca) (.slice b vs.length cb)
 bytes:YQ w F (.slice a es.length ca) es (fun i=>Xa i 0)
 rows:YT w H (.slice b vs.length cb) vs
 fbp:¬F bp
 hbp:¬H bp
 apart:∀k,F k→¬H k
 few:es.length≤4398046511104
 few2:vs.length≤4398046511104
 flt:∀k,F k→k<w.heap.size
 hlt:∀k,H k→k<w.heap.size
end book
namespace book
open Go.RowKit disk ref
structure XH (w w':World) (e:TypeId) (size:Nat) (v:Value) (n m:Nat) (xs:List Value) (r:Value):Prop where
 keeps:w'.ownsRow 0 e size v n xs
 kept:za (fun k=>v.ownBlock=some k) w w'
 res:(∃g cx,v=.slice (some ⟨g,0,none⟩) n cx∧r=.slice (some ⟨g,0,none⟩) (n+m) cx∧n+m≤cx)∨
  (∃cap cur,r=.slice (some ⟨w.heap.size,0,none⟩) (n+m) cap∧w'.heap[w.heap.size]? =some (.cells cur e (0,0))∧(n+m)*size≤cur.size)
end book
namespace book
open Go.ChangeShapes Go.WideShapes Go.ChangeAt Go.RowKit disk ref
open keys (zg zc zr zm)
theorem Tryz.infoLetters:(Tryz.prog.info? 179).map (fun i=>(i.zero,i.size,i.bytes))=some (some (.slice none 0 0),1,24):=by kernel_rfl
end book
namespace book
open Go.ChangeShapes Go.WideShapes Go.ChangeAt Go.RowKit disk ref
open keys (zg zc zr zm)
theorem uZ(w:World)(P:Nat→Prop)(a:Option Addr)(cap:Nat)(l:List UInt8)(hb:zy w P a l)(hl:l.length≤140737488355326):
 Calls Tryz.prog 99 #[.slice a l.length cap] w fun e w'=>∃a' c',e=.returned (.slice a' l.length c')∧w'.ownsRow 0 5 1 (.slice a' l.length c') l.length (l.map z4)∧za (fun _=>False) w w'∧∀k,(Value.slice a' l.length c').ownBlock=some k→w.heap.size≤k:=by
 have HB:Hid (zy w P a l):=hb
 obtain⟨j0,hi0,hz0,hz1,hz2⟩:=yx Tryz.infoU8
 have HJ0:Hid (Tryz.prog.info? 5=some j0∧j0.zero=some (.int .u8 0)∧j0.size=1∧j0.bytes=1):=⟨hi0,hz0,hz1,hz2⟩
 clear hi0 hz0 hz1 hz2 hb
 go_enter Tryz.func99,Tryz.ntmps99
 go_wp2_with (refine qK P rfl (.tmp 4) (.tmp 5) 35 rfl 5 j0 _ Tryz.underlying35 HJ0.out.1 HJ0.out.2.1 HJ0.out.2.2.1 HJ0.out.2.2.2 rfl a cap l (by rfl) (by rfl) (by exact HB.out) (by omega) ?_;intro a1 c1 w2 hown1 hgrow1 hat1;have HO1:Hid _:=hown1;have HG1:Hid _:=hgrow1;have HA1:Hid _:=hat1;clear hown1 hgrow1 hat1)
 go_ret
 exact⟨a1,c1,rfl,HO1.out,za.grown (S:=fun _=>False) HG1.out (fun k hk=>by cases hk),fun k hk=>by rcases HA1.out with e|e<;>rw [e] at hk<;>simp at hk;omega⟩
theorem jD(w:World)(a:Option Addr)(n c:Nat):(binOp .eql 35 (.slice a n c) (.slice none 0 0)).run Tryz.prog w=.ok (.bool a.isNone) w:=Go.Lib.run_eql_slice_nil w 35 5 a n c 0 0 Tryz.underlying35
structure dw (w:World) (g n cap:Nat) (l:List UInt8):Prop where
 len:n=l.length
 at_:∃cur,w.heap[g]? =some (.cells cur 5 (0,0))∧n+2≤cap∧cap≤maxLen∧cur.size=cap∧cur.toList.take (n+2)=l.map z4++[.int .u8 77,.int .u8 77]
theorem ZQ(w:World)(P:Nat→Prop)(ad:Addr)(cap:Nat)(l:List UInt8)(hb:zy w P (some ad) l)(hl:l.length≤140737488355326):
 Calls Tryz.prog 91 #[.slice (some ad) l.length cap] w fun e w'=>∃g c',e=.returned (.slice (some ⟨g,0,none⟩) l.length c')∧dw w' g l.length c' l∧za (fun _=>False) w w'∧w.heap.size≤g:=by
 have HB:Hid (zy w P (some ad) l):=hb
 obtain⟨j0,hi0,hz0,hz1,hz2⟩:=yx Tryz.infoU8
 have HJ0:Hid (Tryz.prog.info? 5=some j0∧j0.zero=some (.int .u8 0)∧j0.size=1∧j0.bytes=1):=⟨hi0,hz0,hz1,hz2⟩
 clear hi0 hz0 hz1 hz2 hb
 have hnil:=fun w=>jD w (some ad) l.length cap
 go_enter Tryz.func91,Tryz.ntmps91
 go_wp2_with fail
 refine(uZ _ P _ cap l HB.out hl).mono ?_
 rintro e w1 ⟨a1,c1,rfl,hown,hk,hnew⟩
 have HO:Hid (w1.ownsRow 0 5 1 (.slice a1 l.length c1) l.length (l.map z4)):=hown
 have HK:Hid _:=hk
 have HN:Hid _:=hnew
 clear hown hk hnew
 go_wp2_with (refine wpList_append_lies _ rfl (.tmp 8) (.tmp 9) 35 rfl 0 5 j0 _ 1 1 Tryz.underlying35 HJ0.out.1 HJ0.out.2.1 HJ0.out.2.2.1 HJ0.out.2.2.2 rfl (by omega) (.slice a1 l.length c1) l.length (l.map z4) (by rfl) (by exact World.ownsRow.alloc HO.out _) ⟨w1.heap.size,0,none⟩ 2 2 [.int .u8 77,.int .u8 77] (by rfl) (by rfl) (by exact World.news_of_block (heap_alloc_new w1 _)) (by simp [Value.oneCell']) (by omega) (by unfold maxLen;omega) (by omega) (Nat.zero_le _) (w1.heap.size+1) (by simp) ?_;intro g c2 w2 hown2 hgrow2 hat2 hlt2;have HO2:Hid (w2.ownsRow _ _ _ _ _ _):=hown2;have HG2:Hid _:=hgrow2;have HA2:Hid _:=hat2;have hcap:l.length+2≤c2∧c2≤9223372036854775807:=by {rcases hown2.2 with⟨h0,_⟩|⟨_,_,_,h0,_,_,h1,h2,_⟩;cases h0;cases h0;unfold maxLen at h2;omega};clear hown2 hgrow2 hat2)
 go_ret
 have k1:za (fun k=>w.heap.size≤k) w1 w2:=(za.alloc _ w1 _).trans (za.grown (S:=fun k=>w.heap.size≤k) HG2.out (fun k hk=>HN.out k hk)) iL
 refine⟨g,c2,rfl,⟨rfl,?_⟩,HK.out.trans k1 (fun k hk=>.inr hk),?_⟩
 ·rcases HO2.out.2 with⟨h0,_⟩|⟨g',cap',cur,h0,_,h1,h2,h3,h4,h5⟩
  ·cases h0
  ·cases h0
   exact⟨cur,h1,h2,h3,by omega,by simpa using h5⟩
 ·rcases HA2.out with e|e
  ·exact HN.out g e
  ·have:=HK.out.size;omega
theorem ZR(w:World)(n cap:Nat):Calls Tryz.prog 91 #[.slice none n cap] w fun e w'=>e=.returned (.slice none 0 0)∧w'=w:=by
 have hnil:=fun w=>jD w none n cap
 go_enter Tryz.func91,Tryz.ntmps91
 go_wp2
 go_ret
 exact⟨rfl,rfl⟩
theorem u9(w:World)(n cap:Nat):Calls Tryz.prog 92 #[.slice none 0 0,.slice none n cap] w fun e w'=>e=.returned (.bool true)∧w'=w:=by
 have hnil:=fun w=>jD w none n cap
 have hnil2:=fun w=>jD w none 0 0
 go_enter Tryz.func92,Tryz.ntmps92
 go_wp2
 go_ret
 exact⟨rfl,rfl⟩
theorem gc(w:World)(P:Nat→Prop)(ad:Addr)(cap:Nat)(l:List UInt8)(hb:zy w P (some ad) l)(hl:l.length≤140737488355326)(g c:Nat)(h:dw w g l.length c l)(hg:¬P g):
 Calls Tryz.prog 92 #[.slice (some ⟨g,0,none⟩) l.length c,.slice (some ad) l.length cap] w fun e w'=>e=.returned (.bool true)∧za (fun k=>k=g) w w':=by
 have HB:Hid (zy w P (some ad) l):=hb
 have HH:Hid _:=h
 have hnil:=fun w=>jD w (some ad) l.length cap
 obtain⟨hcs,h77a,h77b,hfz⟩:=h.cells
 have HC:Hid _:=hcs
 have HF:Hid _:=hfz
 have hcap:l.length+2≤c∧c≤9223372036854775807:=by
  obtain⟨_,cur,_,h2,h3,_⟩:=h;unfold maxLen at h3;omega
 clear hb h hcs hfz
 go_enter Tryz.func92,Tryz.ntmps92
 go_wp2
 go_loopw [6,7] (fun ok i wr=>∃k:Nat,k≤l.length∧i=.int .i64 k∧ok=.bool true∧∃n,wr=w.drewN n) (fun _ i _=>l.length-(intOf i).toNat)
 case atStart=>exact⟨0,Nat.zero_le _,rfl,rfl,0,rfl⟩
 case round=>
  obtain⟨k,hk,rfl,rfl,n,rfl⟩:=hrel
  by_cases hlt:k<l.length
  ·have hk1:=HC.out k hlt
   rcases HB.out with h0|⟨b,o,h1,h2,h3,h4⟩
   ·rw [h0] at hlt;simp at hlt
   ·have hk2:=h4 k hlt
    cases h1
    go_wp2
    go_quiet (fail)
    go_wp2
    go_roundw
    case rel=>exact⟨k+1,by omega,by go_num,rfl,_,rfl⟩
    case measure=>simp [intOf];omega
  ·go_wp2
   go_loopw [8] (fun i wr=>∃k:Nat,k≤l.length+2∧i=.int .i64 k∧(∃cur,wr.heap[g]? =some (.cells cur 5 (0,0))∧l.length+2≤cur.size)∧za (fun k=>k=g) w wr) (fun i _=>l.length+2-(intOf i).toNat)
   case atStart=>
    obtain⟨_,cur,h1,h2,h3,h4,h5⟩:=HH.out
    exact⟨0,Nat.zero_le _,rfl,⟨cur,h1,by omega⟩,kD⟩
   case round=>
    obtain⟨j,hj,rfl,⟨cur,h1,h2⟩,hkept⟩:=hrel
    have HK:Hid _:=hkept
    have HH1:Hid _:=h1
    clear hkept
    by_cases hlt2:j<l.length+2
    ·have hcj:wr.cell? ⟨g,j,none⟩=some (cur[j]'(by omega)):=by rw [cell_of_row wr g j _ _ _ h1];simp
     have hfj:=frozen_of_row wr g j _ _ h1
     generalize cur[j]'(by omega)=cj at*
     clear h1
     go_wp2
     go_roundw
     case rel=>exact⟨j+1,by omega,by go_num,⟨_,heap_setCell_same wr g j _ _ _ HH1.out,by simpa using h2⟩,HK.out.trans (za.setCell (S:=fun k=>k=g) wr ⟨g,j,none⟩ _ rfl) iL⟩
     case measure=>simp [intOf];omega
    ·clear h1
     go_wp2
     go_ret
     exact⟨rfl,HK.out⟩
end book
namespace law
open Go.ChangeShapes Go.WideShapes Go.ChangeAt Go.RowKit disk ref book
open keys (zg zc zr zm)
structure qW where
 d:Value
 s:Value
 is:Value
 mb:Value
 k0:Value
 k1:Value
 k2:Value
 k3:Value
 died:Int
 told:Int
 shut:Bool
def qW.cells(h:qW):Array Value:=#[h.d,h.s,h.is,h.mb,h.k0,h.k1,h.k2,h.k3,.int .i64 h.died,.int .i64 h.told,.bool h.shut]
structure z9 (w:World) (bo:Nat) (h:qW):Prop where
 head:w.heap[bo]? =some (.cells h.cells 125 (0,0))
theorem q8(w:World)(bo:Nat)(h:qW)(o:z9 w bo h)(bd:Nat)(hd:h.d=.pointer (some ⟨bd,0,none⟩))(S:Nat→Prop)(D:Dk)(hD:zj w bd S D):
 Calls Tryz.prog 149 #[.pointer (some ⟨bo,0,none⟩)] w fun e w'=>e=.returned (.int .i64 D.bs.length)∧w'=w:=by
 have hc:=o.c0
 rw [hd] at hc
 obtain⟨ba,pa,bc,pc,hD⟩:=hD
 have HD:Hid _:=hD
 clear hD hd
 go_enter Tryz.func149,Tryz.ntmps149
 go_wp2_with (go_at_call 54;refine(jj _ bd S D ba pa bc pc HD.out).mono ?_;rintro e w' ⟨rfl,rfl⟩)
 go_ret
 exact⟨rfl,rfl⟩
theorem ZS(w:World)(bo:Nat)(h:qW)(o:z9 w bo h)(bd:Nat)(hd:h.d=.pointer (some ⟨bd,0,none⟩))(S:Nat→Prop)(D:Dk)(hD:zj w bd S D)(hf:D.fuse=0):
 Calls Tryz.prog 87 #[.pointer (some ⟨bo,0,none⟩)] w fun e w'=>e=.returned (.bool true)∧(∃S',zj w' bd S' D∧∀k,S' k→S k)∧za S w w':=by
 have hc:=o.c0
 rw [hd] at hc
 have HD:Hid _:=hD
 have hfl:D.flush=D:=by
  cases D;simp only at hf;subst hf;rfl
 have HF:Hid _:=hf
 have HL:Hid _:=hfl
 clear hD hd hf hfl
 go_enter Tryz.func87,Tryz.ntmps87
 go_wp2_with fail
 refine(yl _ bd S D HD.out (by rw [HF.out];exact⟨by omega,by omega⟩)).mono ?_
 rintro e w1 ⟨rfl,h1,h2⟩
 rw [HF.out]
 rw [HL.out] at h1
 have H1:Hid _:=h1
 have H2:Hid _:=h2
 clear h1 h2
 go_wp2
 go_ret
 exact⟨rfl,H1.out,H2.out⟩
def vz:Bool→Int→Int
 |false,c=>c
 |true,c=>if c=0∨c=5 then 8 else c
def cA(n last told died:Int):Bool:=decide (last<n∧n≤told+1+died)
theorem gd(w:World)(bo:Nat)(h:qW)(o:z9 w bo h)(ib:Nat)(hi:h.is=.pointer (some ⟨ib,0,none⟩))(F G:Nat→Prop)(vs:List zM)(last:Int)(hr:qg w F G ib vs last)(n:Int)(ht0:0≤h.told)(ht1:h.told≤4611686018427387904)(hd0:0≤h.died)(hd1:h.died≤1152921504606846976):
 Calls Tryz.prog 96 #[.pointer (some ⟨bo,0,none⟩),.int .i64 n] w fun e w'=>e=.returned (.bool (cA n last h.told h.died))∧∃m,w'=w.drewN m:=by
 have hc2:=o.c2
 have hc8:=o.c8
 have hc9:=o.c9
 rw [hi] at hc2
 obtain⟨a,cap,cs,hr⟩:=hr
 have hcl:=hr.c1
 clear hr hi
 by_cases h1:last<n
 ·have e1:decide (last<n)=true:=decide_eq_true h1
  go_enter Tryz.func96,Tryz.ntmps96
  go_wp2
  go_quiet (fail)
  go_wp2
  go_ret
  exact⟨zc (by unfold cA;simp [h1]),_,rfl⟩
 ·have e1:decide (last<n)=false:=decide_eq_false h1
  go_enter Tryz.func96,Tryz.ntmps96
  go_wp2
  go_quiet (fail)
  go_wp2
  go_ret
  exact⟨zc (by unfold cA;rw [decide_eq_false (by omega)]),_,rfl⟩
end law
end Go.Proofs.YtcoengihaobddaaGreatDoor

/- Part 5 of 34 of a proof: Book2, Book3, Append2, Book4, Lent, Law1 -/
import Derived.Test.YtcoengihaobddaaGreatDoorJk04
import Derived.Deep.RegionWith
import Derived.Lib.SliceRun
set_option maxHeartbeats 8000000
set_option linter.unusedVariables false
set_option linter.unusedSimpArgs false
set_option maxRecDepth 8000
namespace Go.Proofs.YtcoengihaobddaaGreatDoor
namespace book
open Go.ChangeShapes Go.WideShapes Go.ChangeAt Go.RowKit disk ref
open keys (ze zd zr zn)
structure dY where
 g:Nat
 ss:List (Option Addr×Nat×Nat)
 P:Nat→Prop
def dY.val(e:dY):Value:=.slice (some ⟨e.g,0,none⟩) e.ss.length 4
structure uF (w:World) (F:Nat→Prop) (v:Value) (es:List dY) (m:Nat→Int):Prop where
 row:w.ownsRow 0 179 1 v es.length (es.map dY.val)
 lets:∀i (hi:i<es.length),xP w es[i].P es[i].g es[i].ss
 are:∀i (hi:i<es.length),xP.Are w es[i].ss (.int .u8 (m i))
 apart:∀i j (hi:i<es.length) (hj:j<es.length),i≠j→∀k,es[i].P k→¬es[j].P k∧k≠es[j].g
 row2:∀i (hi:i<es.length) k,es[i].P k→v.ownBlock≠some k
 foot:∀i (hi:i<es.length),F es[i].g∧∀k,es[i].P k→F k
 foot2:∀k,v.ownBlock=some k→F k
theorem uF.kept{w w':World}{F T:Nat→Prop}{v:Value}{es:List dY}{m:Nat→Int}(h:uF w F v es m)(k:Kept T w w')(hn:∀i,F i→¬T i):uF w' F v es m:=
 ⟨k.owns h.row (fun i hi=>hn i (h.foot2 i hi)),fun i hi=>(h.lets i hi).kept k (fun j hj=>hn j ((h.foot i hi).2 j hj)) (hn _ (h.foot i hi).1),
  fun i hi=>(h.are i hi).kept (h.lets i hi) k (fun j hj=>hn j ((h.foot i hi).2 j hj)),h.apart,h.row2,h.foot,h.foot2⟩
theorem uF.cell{w:World}{F:Nat→Prop}{g cap:Nat}{es:List dY}{m:Nat→Int}(h:uF w F (.slice (some ⟨g,0,none⟩) es.length cap) es m)(i:Nat)(hi:i<es.length):w.cell? ⟨g,i,none⟩=some (.slice (some ⟨es[i].g,0,none⟩) es[i].ss.length 4):=by
 have:=h.row.cells (g:=g) rfl i es[i].val (by simp [hi])
 rw [Addr.add_mid] at this
 simpa [dY.val] using this
theorem uF.rowAt{w:World}{F:Nat→Prop}{a:Option Addr}{cap:Nat}{es:List dY}{m:Nat→Int}(h:uF w F (.slice a es.length cap) es m)(hn:0<es.length):∃g,a=some ⟨g,0,none⟩:=by
 rcases h.row.2 with⟨h0,h1⟩|⟨g,cap',cur,hv,_⟩
 ·omega
 ·cases hv;exact⟨g,rfl⟩
structure y9 (w:World) (bp:Nat) (l a b:Value):Prop where
 head:w.heap[bp]? =some (.cells #[l,a,b] 79 (0,0))
theorem y9.c{w:World}{bp:Nat}{l a b:Value}(h:y9 w bp l a b):w.cell? ⟨bp,0,none⟩=some l∧w.cell? ⟨bp,1,none⟩=some a∧w.cell? ⟨bp,2,none⟩=some b∧∀i,w.frozen? ⟨bp,i,none⟩=false:=
 ⟨cR h.head rfl,cR h.head rfl,cR h.head rfl,fun i=>frozen_of_row w bp i _ _ h.head⟩
theorem y9.lt{w:World}{bp:Nat}{l a b:Value}(h:y9 w bp l a b):bp<w.heap.size:=(lT h.head)
theorem y9.kept{w w':World}{T:Nat→Prop}{bp:Nat}{l a b:Value}(h:y9 w bp l a b)(k:Kept T w w')(hn:¬T bp):y9 w' bp l a b:=⟨(k.block bp h.lt hn).trans h.head⟩
def Vm:ByteArray:=⟨#[40,109,105,110,101,41]⟩
def Vn(i:Nat):List Value:=[.string Vm,.int .i64 (i:Int),.bool false,.int .i64 0]
structure Y4 (w:World) (P:Nat→Prop) (g:Nat) (ss:List (Option Addr×Nat×Nat)) (i:Nat):Prop where
 head:w.heap[g]? =some (.cells (ss.map dX).toArray 44 (0,0))
 are:∀s∈ss,∀j,j<s.2.1→∃b,s.1=some ⟨b,0,none⟩∧P b∧b<w.heap.size∧w.rangeAt b (j*4) (Vn i)
 few:∀s∈ss,s.2.1≤9223372036854775807
 len:ss.length≤100
theorem Y4.kept{w w':World}{P T:Nat→Prop}{g:Nat}{ss:List (Option Addr×Nat×Nat)}{i:Nat}(h:Y4 w P g ss i)(k:Kept T w w')(hn:∀i,P i→¬T i)(hg:¬T g):Y4 w' P g ss i:=
 ⟨(k.block g (lT h.head) hg).trans h.head,fun s hs j hj=>by
   obtain⟨b,h1,h2,h3,h4⟩:=h.are s hs j hj
   exact⟨b,h1,h2,Nat.lt_of_lt_of_le h3 k.size,fun t v hv=>(k.cell (a:=⟨b,j*4+t,none⟩) h3 (hn b h2)).trans (h4 t v hv)⟩,h.few,h.len⟩
theorem Y4.cell{w:World}{P:Nat→Prop}{g:Nat}{ss:List (Option Addr×Nat×Nat)}{q:Nat}(h:Y4 w P g ss q)(i:Nat)(hi:i<ss.length):w.cell? ⟨g,i,none⟩=some (.slice ss[i].1 ss[i].2.1 ss[i].2.2):=by
 rw [cell_of_row w g i _ _ _ h.head];simp [hi,dX]
structure uG (w:World) (F:Nat→Prop) (v:Value) (es:List dY):Prop where
 row:w.ownsRow 0 129 1 v es.length (es.map dY.val)
 vets:∀i (hi:i<es.length),Y4 w es[i].P es[i].g es[i].ss i
 foot:∀i (hi:i<es.length),F es[i].g∧∀k,es[i].P k→F k
 foot2:∀k,v.ownBlock=some k→F k
 row2:∀i (hi:i<es.length) k,es[i].P k→v.ownBlock≠some k
theorem uG.kept{w w':World}{F T:Nat→Prop}{v:Value}{es:List dY}(h:uG w F v es)(k:Kept T w w')(hn:∀i,F i→¬T i):uG w' F v es:=
 ⟨k.owns h.row (fun i hi=>hn i (h.foot2 i hi)),fun i hi=>(h.vets i hi).kept k (fun j hj=>hn j ((h.foot i hi).2 j hj)) (hn _ (h.foot i hi).1),h.foot,h.foot2,h.row2⟩
theorem uG.cell{w:World}{F:Nat→Prop}{g cap:Nat}{es:List dY}(h:uG w F (.slice (some ⟨g,0,none⟩) es.length cap) es)(i:Nat)(hi:i<es.length):w.cell? ⟨g,i,none⟩=some (.slice (some ⟨es[i].g,0,none⟩) es[i].ss.length 4):=by
 have:=h.row.cells (g:=g) rfl i es[i].val (by simp [hi])
 rw [Addr.add_mid] at this
 simpa [dY.val] using this
theorem uG.rowAt{w:World}{F:Nat→Prop}{a:Option Addr}{cap:Nat}{es:List dY}(h:uG w F (.slice a es.length cap) es)(hn:0<es.length):∃g,a=some ⟨g,0,none⟩:=by
 rcases h.row.2 with⟨h0,h1⟩|⟨g,cap',cur,hv,_⟩
 ·omega
 ·cases hv;exact⟨g,rfl⟩
structure X3 (w:World) (bp:Nat) (l:Value) (F H:Nat→Prop) (a b:Option Addr) (ca cb:Nat) (es vs:List dY):Prop where
 head:y9 w bp l (.slice a es.length ca) (.slice b vs.length cb)
 bytes:uF w F (.slice a es.length ca) es (fun i=>VK i 0)
 rows:uG w H (.slice b vs.length cb) vs
 fbp:¬F bp
 hbp:¬H bp
 apart:∀k,F k→¬H k
 few:es.length≤4398046511104
 few2:vs.length≤4398046511104
 flt:∀k,F k→k<w.heap.size
 hlt:∀k,H k→k<w.heap.size
theorem X3.kept{w w':World}{bp:Nat}{l:Value}{F H T:Nat→Prop}{a b:Option Addr}{ca cb:Nat}{es vs:List dY}(h:X3 w bp l F H a b ca cb es vs)(k:Kept T w w')(hF:∀i,F i→¬T i)(hH:∀i,H i→¬T i)(hb:¬T bp):X3 w' bp l F H a b ca cb es vs:=
 ⟨h.head.kept k hb,h.bytes.kept k hF,h.rows.kept k hH,h.fbp,h.hbp,h.apart,h.few,h.few2,fun i hi=>Nat.lt_of_lt_of_le (h.flt i hi) k.size,fun i hi=>Nat.lt_of_lt_of_le (h.hlt i hi) k.size⟩
end book
namespace book
open Go.RowKit disk ref
structure Uc (w w':World) (e:TypeId) (size:Nat) (v:Value) (n m:Nat) (xs:List Value) (r:Value):Prop where
 keeps:w'.ownsRow 0 e size v n xs
 kept:Kept (fun k=>v.ownBlock=some k) w w'
 res:(∃g cx,v=.slice (some ⟨g,0,none⟩) n cx∧r=.slice (some ⟨g,0,none⟩) (n+m) cx∧n+m≤cx)∨
  (∃cap cur,r=.slice (some ⟨w.heap.size,0,none⟩) (n+m) cap∧w'.heap[w.heap.size]? =some (.cells cur e (0,0))∧(n+m)*size≤cur.size)
end book
namespace book
open Go.ChangeShapes Go.WideShapes Go.ChangeAt Go.RowKit disk ref
open keys (ze zd zr zn)
theorem Tryz.infoLetters:(Tryz.prog.info? 179).map (fun i=>(i.zero,i.size,i.bytes))=some (some (.slice none 0 0),1,24):=by kernel_rfl
theorem gA.of_own{w:World}{base:Nat}{a:Option Addr}{n cap:Nat}{t:TypeId}{xs:List Value}(h:w.ownsRow base t 1 (.slice a n cap) n xs)(P:Nat→Prop)(hP:∀k,(Value.slice a n cap).ownBlock=some k→P k):gA w P t a n:=by
 rcases h.2 with⟨h0,h1⟩|⟨g,cap',cur,hv,hb,hg,h1,h2,h3,h4⟩
 ·exact .inl h1
 ·cases hv
  exact .inr ⟨g,cur,rfl,hP g rfl,hg,by omega⟩
theorem Uc.room{w w' w'':World}{e:TypeId}{v:Value}{n m:Nat}{xs:List Value}{g c:Nat}(h:(v=.slice (some ⟨g,0,none⟩) n c∧n+m≤c)∨(g=w.heap.size∧∃cur,w'.heap[g]? =some (.cells cur e (0,0))∧(n+m)*1≤cur.size))
 (hrow:w''.ownsRow 0 e 1 v n xs) (hw:Kept (fun k=>v.ownBlock=some k) w' w'') (hv:∀k,v.ownBlock=some k→k<w.heap.size) (P:Nat→Prop) (hP:∀k,v.ownBlock=some k→P k) (hQ:∀k,w.heap.size≤k→k<w''.heap.size→P k):gA w'' P e (some ⟨g,0,none⟩) (n+m):=by
 rcases h with⟨rfl,h2⟩|⟨rfl,cur,h1,h2⟩
 ·rcases hrow.2 with⟨h0,_⟩|⟨g',cap',cur,hv',_,hg,h3,h4,h5,_⟩
  ·cases h0
  ·cases hv'
   exact .inr ⟨g,cur,rfl,hP g rfl,hg,by omega⟩
 ·have hlt:=(lT h1)
  refine .inr ⟨w.heap.size,cur,rfl,hQ _ (Nat.le_refl _) (Nat.lt_of_lt_of_le hlt hw.size),(hw.block _ hlt (fun hc=>?_)).trans h1,by omega⟩
  have:=hv _ hc;omega
end book
namespace book
open Go.ChangeShapes Go.WideShapes Go.ChangeAt Go.RowKit disk ref
open keys (ze zd zr zn)
theorem dZ(w:World)(P:Nat→Prop)(a:Option Addr)(cap:Nat)(l:List UInt8)(hb:zv w P a l)(hl:l.length≤140737488355326):
 Calls Tryz.prog 99 #[.slice a l.length cap] w fun e w'=>∃a' c',e=.returned (.slice a' l.length c')∧w'.ownsRow 0 5 1 (.slice a' l.length c') l.length (l.map qc)∧Kept (fun _=>False) w w'∧∀k,(Value.slice a' l.length c').ownBlock=some k→w.heap.size≤k:=by
 have HB:Hid (zv w P a l):=hb
 obtain⟨j0,hi0,hz0,hz1,hz2⟩:=y5 Tryz.infoU8
 have HJ0:Hid (Tryz.prog.info? 5=some j0∧j0.zero=some (.int .u8 0)∧j0.size=1∧j0.bytes=1):=⟨hi0,hz0,hz1,hz2⟩
 clear hi0 hz0 hz1 hz2 hb
 go_enter Tryz.func99,Tryz.ntmps99
 go_wp2_with (refine yw P rfl (.tmp 4) (.tmp 5) 35 rfl 5 j0 _ Tryz.underlying35 HJ0.out.1 HJ0.out.2.1 HJ0.out.2.2.1 HJ0.out.2.2.2 rfl a cap l (by rfl) (by rfl) (by exact HB.out) (by omega) ?_;intro a1 c1 w2 hown1 hgrow1 hat1;have HO1:Hid _:=hown1;have HG1:Hid _:=hgrow1;have HA1:Hid _:=hat1;clear hown1 hgrow1 hat1)
 go_ret
 exact⟨a1,c1,rfl,HO1.out,Kept.grown (S:=fun _=>False) HG1.out (fun k hk=>by cases hk),fun k hk=>by rcases HA1.out with e|e<;>rw [e] at hk<;>simp at hk;omega⟩
theorem vo(w:World)(a:Option Addr)(n c:Nat):(binOp .eql 35 (.slice a n c) (.slice none 0 0)).run Tryz.prog w=.ok (.bool a.isNone) w:=Go.Lib.run_eql_slice_nil w 35 5 a n c 0 0 Tryz.underlying35
structure x9 (w:World) (g n cap:Nat) (l:List UInt8):Prop where
 len:n=l.length
 at_:∃cur,w.heap[g]? =some (.cells cur 5 (0,0))∧n+2≤cap∧cap≤maxLen∧cur.size=cap∧cur.toList.take (n+2)=l.map qc++[.int .u8 77,.int .u8 77]
theorem x9.kept{w w':World}{T:Nat→Prop}{g n cap:Nat}{l:List UInt8}(h:x9 w g n cap l)(k:Kept T w w')(hn:¬T g):x9 w' g n cap l:=by
 obtain⟨h0,cur,h1,h2⟩:=h
 exact⟨h0,cur,(k.block g (lT h1) hn).trans h1,h2⟩
theorem x9.bytes{w:World}{g n cap:Nat}{l:List UInt8}(h:x9 w g n cap l)(P:Nat→Prop)(hP:P g):zv w P (some ⟨g,0,none⟩) l:=by
 obtain⟨h0,cur,h1,h2,h3,h4,h5⟩:=h
 subst h0
 refine .inr ⟨g,0,rfl,hP,(lT h1),fun j hj=>?_⟩
 rw [cell_of_row w g (0+j) _ _ _ h1]
 have e:cur.toList[0+j]? =(cur.toList.take (l.length+2))[0+j]? :=by rw [List.getElem?_take,if_pos (by omega)]
 rw [←Array.getElem?_toList,e,h5]
 rw [List.getElem?_append_left (by simp;omega)]
 simp [hj,qc]
theorem x9.cells{w:World}{g n cap:Nat}{l:List UInt8}(h:x9 w g n cap l):(∀j (hj:j<l.length),w.cell? ⟨g,j,none⟩=some (.int .u8 (l[j].toNat:Int)))∧w.cell? ⟨g,l.length,none⟩=some (.int .u8 77)∧w.cell? ⟨g,l.length+1,none⟩=some (.int .u8 77)∧∀i,w.frozen? ⟨g,i,none⟩=false:=by
 obtain⟨h0,cur,h1,h2,h3,h4,h5⟩:=h
 subst h0
 have key:∀j,j<l.length+2→w.cell? ⟨g,j,none⟩=(l.map qc++[.int .u8 77,.int .u8 77])[j]? :=fun j hj=>by
  rw [cell_of_row w g j _ _ _ h1,←Array.getElem?_toList,←h5,List.getElem?_take,if_pos hj]
 refine⟨fun j hj=>?_,?_,?_,fun i=>frozen_of_row w g i _ _ h1⟩
 ·rw [key j (by omega),List.getElem?_append_left (by simpa using hj)];simp [hj,qc]
 ·rw [key _ (by omega),List.getElem?_append_right (by simp)];simp
 ·rw [key _ (by omega),List.getElem?_append_right (by simp)];simp
theorem Ja(w:World)(P:Nat→Prop)(ad:Addr)(cap:Nat)(l:List UInt8)(hb:zv w P (some ad) l)(hl:l.length≤140737488355326):
 Calls Tryz.prog 91 #[.slice (some ad) l.length cap] w fun e w'=>∃g c',e=.returned (.slice (some ⟨g,0,none⟩) l.length c')∧x9 w' g l.length c' l∧Kept (fun _=>False) w w'∧w.heap.size≤g:=by
 have HB:Hid (zv w P (some ad) l):=hb
 obtain⟨j0,hi0,hz0,hz1,hz2⟩:=y5 Tryz.infoU8
 have HJ0:Hid (Tryz.prog.info? 5=some j0∧j0.zero=some (.int .u8 0)∧j0.size=1∧j0.bytes=1):=⟨hi0,hz0,hz1,hz2⟩
 clear hi0 hz0 hz1 hz2 hb
 have hnil:=fun w=>vo w (some ad) l.length cap
 go_enter Tryz.func91,Tryz.ntmps91
 go_wp2_with fail
 refine(dZ _ P _ cap l HB.out hl).mono ?_
 rintro e w1 ⟨a1,c1,rfl,hown,hk,hnew⟩
 have HO:Hid (w1.ownsRow 0 5 1 (.slice a1 l.length c1) l.length (l.map qc)):=hown
 have HK:Hid _:=hk
 have HN:Hid _:=hnew
 clear hown hk hnew
 go_wp2_with (refine wpList_append_lies _ rfl (.tmp 8) (.tmp 9) 35 rfl 0 5 j0 _ 1 1 Tryz.underlying35 HJ0.out.1 HJ0.out.2.1 HJ0.out.2.2.1 HJ0.out.2.2.2 rfl (by omega) (.slice a1 l.length c1) l.length (l.map qc) (by rfl) (by exact World.ownsRow.alloc HO.out _) ⟨w1.heap.size,0,none⟩ 2 2 [.int .u8 77,.int .u8 77] (by rfl) (by rfl) (by exact World.news_of_block (heap_alloc_new w1 _)) (by simp [Value.oneCell']) (by omega) (by unfold maxLen;omega) (by omega) (Nat.zero_le _) (w1.heap.size+1) (by simp) ?_;intro g c2 w2 hown2 hgrow2 hat2 hlt2;have HO2:Hid (w2.ownsRow _ _ _ _ _ _):=hown2;have HG2:Hid _:=hgrow2;have HA2:Hid _:=hat2;have hcap:l.length+2≤c2∧c2≤9223372036854775807:=by {rcases hown2.2 with⟨h0,_⟩|⟨_,_,_,h0,_,_,h1,h2,_⟩;cases h0;cases h0;unfold maxLen at h2;omega};clear hown2 hgrow2 hat2)
 go_ret
 have k1:Kept (fun k=>w.heap.size≤k) w1 w2:=(Kept.alloc _ w1 _).trans (Kept.grown (S:=fun k=>w.heap.size≤k) HG2.out (fun k hk=>HN.out k hk)) iL
 refine⟨g,c2,rfl,⟨rfl,?_⟩,HK.out.trans k1 (fun k hk=>.inr hk),?_⟩
 ·rcases HO2.out.2 with⟨h0,_⟩|⟨g',cap',cur,h0,_,h1,h2,h3,h4,h5⟩
  ·cases h0
  ·cases h0
   exact⟨cur,h1,h2,h3,by omega,by simpa using h5⟩
 ·rcases HA2.out with e|e
  ·exact HN.out g e
  ·have:=HK.out.size;omega
theorem Jb(w:World)(n cap:Nat):Calls Tryz.prog 91 #[.slice none n cap] w fun e w'=>e=.returned (.slice none 0 0)∧w'=w:=by
 have hnil:=fun w=>vo w none n cap
 go_enter Tryz.func91,Tryz.ntmps91
 go_wp2
 go_ret
 exact⟨rfl,rfl⟩
theorem bf(w:World)(n cap:Nat):Calls Tryz.prog 92 #[.slice none 0 0,.slice none n cap] w fun e w'=>e=.returned (.bool true)∧w'=w:=by
 have hnil:=fun w=>vo w none n cap
 have hnil2:=fun w=>vo w none 0 0
 go_enter Tryz.func92,Tryz.ntmps92
 go_wp2
 go_ret
 exact⟨rfl,rfl⟩
theorem bg(w:World)(P:Nat→Prop)(ad:Addr)(cap:Nat)(l:List UInt8)(hb:zv w P (some ad) l)(hl:l.length≤140737488355326)(g c:Nat)(h:x9 w g l.length c l)(hg:¬P g):
 Calls Tryz.prog 92 #[.slice (some ⟨g,0,none⟩) l.length c,.slice (some ad) l.length cap] w fun e w'=>e=.returned (.bool true)∧Kept (fun k=>k=g) w w':=by
 have HB:Hid (zv w P (some ad) l):=hb
 have HH:Hid _:=h
 have hnil:=fun w=>vo w (some ad) l.length cap
 obtain⟨hcs,h77a,h77b,hfz⟩:=h.cells
 have HC:Hid _:=hcs
 have HF:Hid _:=hfz
 have hcap:l.length+2≤c∧c≤9223372036854775807:=by
  obtain⟨_,cur,_,h2,h3,_⟩:=h;unfold maxLen at h3;omega
 clear hb h hcs hfz
 go_enter Tryz.func92,Tryz.ntmps92
 go_wp2
 go_loopw [6,7] (fun ok i wr=>∃k:Nat,k≤l.length∧i=.int .i64 k∧ok=.bool true∧∃n,wr=w.drewN n) (fun _ i _=>l.length-(intOf i).toNat)
 case atStart=>exact⟨0,Nat.zero_le _,rfl,rfl,0,rfl⟩
 case round=>
  obtain⟨k,hk,rfl,rfl,n,rfl⟩:=hrel
  by_cases hlt:k<l.length
  ·have hk1:=HC.out k hlt
   rcases HB.out with h0|⟨b,o,h1,h2,h3,h4⟩
   ·rw [h0] at hlt;simp at hlt
   ·have hk2:=h4 k hlt
    cases h1
    go_wp2
    go_quiet (fail)
    go_wp2
    go_roundw
    case rel=>exact⟨k+1,by omega,by go_num,rfl,_,rfl⟩
    case measure=>simp [intOf];omega
  ·go_wp2
   go_loopw [8] (fun i wr=>∃k:Nat,k≤l.length+2∧i=.int .i64 k∧(∃cur,wr.heap[g]? =some (.cells cur 5 (0,0))∧l.length+2≤cur.size)∧Kept (fun k=>k=g) w wr) (fun i _=>l.length+2-(intOf i).toNat)
   case atStart=>
    obtain⟨_,cur,h1,h2,h3,h4,h5⟩:=HH.out
    exact⟨0,Nat.zero_le _,rfl,⟨cur,h1,by omega⟩,kD⟩
   case round=>
    obtain⟨j,hj,rfl,⟨cur,h1,h2⟩,hkept⟩:=hrel
    have HK:Hid _:=hkept
    have HH1:Hid _:=h1
    clear hkept
    by_cases hlt2:j<l.length+2
    ·have hcj:wr.cell? ⟨g,j,none⟩=some (cur[j]'(by omega)):=by rw [cell_of_row wr g j _ _ _ h1];simp
     have hfj:=frozen_of_row wr g j _ _ h1
     generalize cur[j]'(by omega)=cj at*
     clear h1
     go_wp2
     go_roundw
     case rel=>exact⟨j+1,by omega,by go_num,⟨_,heap_setCell_same wr g j _ _ _ HH1.out,by simpa using h2⟩,HK.out.trans (Kept.setCell (S:=fun k=>k=g) wr ⟨g,j,none⟩ _ rfl) iL⟩
     case measure=>simp [intOf];omega
    ·clear h1
     go_wp2
     go_ret
     exact⟨rfl,HK.out⟩
end book
namespace law
open Go.ChangeShapes Go.WideShapes Go.ChangeAt Go.RowKit disk ref book
open keys (ze zd zr zn)
structure qG where
 d:Value
 s:Value
 is:Value
 mb:Value
 k0:Value
 k1:Value
 k2:Value
 k3:Value
 died:Int
 told:Int
 shut:Bool
def qG.cells(h:qG):Array Value:=#[h.d,h.s,h.is,h.mb,h.k0,h.k1,h.k2,h.k3,.int .i64 h.died,.int .i64 h.told,.bool h.shut]
structure zC (w:World) (bo:Nat) (h:qG):Prop where
 head:w.heap[bo]? =some (.cells h.cells 125 (0,0))
theorem zC.lt{w:World}{bo:Nat}{h:qG}(o:zC w bo h):bo<w.heap.size:=(lT o.head)
theorem zC.kept{w w':World}{T:Nat→Prop}{bo:Nat}{h:qG}(o:zC w bo h)(k:Kept T w w')(hn:¬T bo):zC w' bo h:=⟨(k.block bo o.lt hn).trans o.head⟩
theorem zC.at_{w:World}{bo:Nat}{h:qG}(o:zC w bo h){i:Nat}{v:Value}(hv:h.cells[i]? =some v):w.cell? ⟨bo,i,none⟩=some v:=by
 rw [cell_of_row w bo i _ _ _ o.head];exact hv
theorem zC.fz{w:World}{bo:Nat}{h:qG}(o:zC w bo h)(i:Nat):w.frozen? ⟨bo,i,none⟩=false:=frozen_of_row w bo i _ _ o.head
theorem zC.c0{w:World}{bo:Nat}{h:qG}(o:zC w bo h):w.cell? ⟨bo,0,none⟩=some h.d:=o.at_ rfl
theorem zC.c1{w:World}{bo:Nat}{h:qG}(o:zC w bo h):w.cell? ⟨bo,1,none⟩=some h.s:=o.at_ rfl
theorem zC.c2{w:World}{bo:Nat}{h:qG}(o:zC w bo h):w.cell? ⟨bo,2,none⟩=some h.is:=o.at_ rfl
theorem zC.c3{w:World}{bo:Nat}{h:qG}(o:zC w bo h):w.cell? ⟨bo,3,none⟩=some h.mb:=o.at_ rfl
theorem zC.c8{w:World}{bo:Nat}{h:qG}(o:zC w bo h):w.cell? ⟨bo,8,none⟩=some (.int .i64 h.died):=o.at_ rfl
theorem zC.c9{w:World}{bo:Nat}{h:qG}(o:zC w bo h):w.cell? ⟨bo,9,none⟩=some (.int .i64 h.told):=o.at_ rfl
theorem zC.c10{w:World}{bo:Nat}{h:qG}(o:zC w bo h):w.cell? ⟨bo,10,none⟩=some (.bool h.shut):=o.at_ rfl
theorem zC.set{w:World}{bo:Nat}{h:qG}(o:zC w bo h)(i:Nat)(v:Value)(h':qG)(e:h'.cells=h.cells.setIfInBounds i v):zC (w.setCell ⟨bo,i,none⟩ v) bo h':=
 ⟨by rw [heap_setCell_same w bo i _ _ _ o.head,e]⟩
theorem yL(w:World)(bo:Nat)(h:qG)(o:zC w bo h)(bd:Nat)(hd:h.d=.pointer (some ⟨bd,0,none⟩))(S:Nat→Prop)(D:Dk)(hD:zh w bd S D):
 Calls Tryz.prog 149 #[.pointer (some ⟨bo,0,none⟩)] w fun e w'=>e=.returned (.int .i64 D.bs.length)∧w'=w:=by
 have hc:=o.c0
 rw [hd] at hc
 obtain⟨ba,pa,bc,pc,hD⟩:=hD
 have HD:Hid _:=hD
 clear hD hd
 go_enter Tryz.func149,Tryz.ntmps149
 go_wp2_with (go_at_call 54;refine(kK _ bd S D ba pa bc pc HD.out).mono ?_;rintro e w' ⟨rfl,rfl⟩)
 go_ret
 exact⟨rfl,rfl⟩
theorem Jc(w:World)(bo:Nat)(h:qG)(o:zC w bo h)(bd:Nat)(hd:h.d=.pointer (some ⟨bd,0,none⟩))(S:Nat→Prop)(D:Dk)(hD:zh w bd S D)(hf:D.fuse=0):
 Calls Tryz.prog 87 #[.pointer (some ⟨bo,0,none⟩)] w fun e w'=>e=.returned (.bool true)∧(∃S',zh w' bd S' D∧∀k,S' k→S k)∧Kept S w w':=by
 have hc:=o.c0
 rw [hd] at hc
 have HD:Hid _:=hD
 have hfl:D.flush=D:=by
  cases D;simp only at hf;subst hf;rfl
 have HF:Hid _:=hf
 have HL:Hid _:=hfl
 clear hD hd hf hfl
 go_enter Tryz.func87,Tryz.ntmps87
 go_wp2_with fail
 refine(yc _ bd S D HD.out (by rw [HF.out];exact⟨by omega,by omega⟩)).mono ?_
 rintro e w1 ⟨rfl,h1,h2⟩
 rw [HF.out]
 rw [HL.out] at h1
 have H1:Hid _:=h1
 have H2:Hid _:=h2
 clear h1 h2
 go_wp2
 go_ret
 exact⟨rfl,H1.out,H2.out⟩
def Ys:Bool→Int→Int
 |false,c=>c
 |true,c=>if c=0∨c=5 then 8 else c
def Y5(n last told died:Int):Bool:=decide (last<n∧n≤told+1+died)
theorem bh(w:World)(bo:Nat)(h:qG)(o:zC w bo h)(ib:Nat)(hi:h.is=.pointer (some ⟨ib,0,none⟩))(F G:Nat→Prop)(vs:List qa)(last:Int)(hr:qy w F G ib vs last)(n:Int)(ht0:0≤h.told)(ht1:h.told≤4611686018427387904)(hd0:0≤h.died)(hd1:h.died≤1152921504606846976):
 Calls Tryz.prog 96 #[.pointer (some ⟨bo,0,none⟩),.int .i64 n] w fun e w'=>e=.returned (.bool (Y5 n last h.told h.died))∧∃m,w'=w.drewN m:=by
 have hc2:=o.c2
 have hc8:=o.c8
 have hc9:=o.c9
 rw [hi] at hc2
 obtain⟨a,cap,cs,hr⟩:=hr
 have hcl:=hr.c1
 clear hr hi
 by_cases h1:last<n
 ·have e1:decide (last<n)=true:=decide_eq_true h1
  go_enter Tryz.func96,Tryz.ntmps96
  go_wp2
  go_quiet (fail)
  go_wp2
  go_ret
  exact⟨zd (by unfold Y5;simp [h1]),_,rfl⟩
 ·have e1:decide (last<n)=false:=decide_eq_false h1
  go_enter Tryz.func96,Tryz.ntmps96
  go_wp2
  go_quiet (fail)
  go_wp2
  go_ret
  exact⟨zd (by unfold Y5;rw [decide_eq_false (by omega)]),_,rfl⟩
end law
end Go.Proofs.YtcoengihaobddaaGreatDoor

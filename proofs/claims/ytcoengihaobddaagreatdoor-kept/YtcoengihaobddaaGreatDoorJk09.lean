/- Part 9 of 34 of a proof: Keep8, Keep9, Law14, Keep10 -/
import Derived.Test.YtcoengihaobddaaGreatDoorJk08
set_option maxHeartbeats 8000000
set_option linter.unusedVariables false
set_option linter.unusedSimpArgs false
set_option maxRecDepth 8000
namespace Go.Proofs.YtcoengihaobddaaGreatDoor
namespace keep
open Go.ChangeShapes Go.WideShapes Go.ChangeAt Go.RowKit disk ref book
open law (qe zc gj zR jI gG KW bt)
open keys (ze zd zr zn zu)
theorem cH{k:ByteArray}(h:zu k.data.toList=true):k.size≤8:=by
 unfold zu at h
 simp only [Bool.and_eq_true,decide_eq_true_eq] at h
 simpa using h.1.2
structure Uo (M:zc) (w wr:World) (bd bs:Nat) (S:Nat→Prop) (D:Dk) (V:qe) (L:List qa) (m i n:Nat) (a:Option Addr) (c:Nat) (S':Nat→Prop) (D':Dk):Prop where
 ni:n=i*m
 nlt:n=0∨n<L.length
 fore:zR M wr bd bs S' D' V
 foot:∀k,S' k→S k∨w.heap.size≤k
 kept:Kept (fun k=>S k∨k=bs) w wr
 reads0:D.reads≤D'.reads
 reads1:D'.reads≤D.reads+1000*(i:Int)
 size:D'.bs.length=D.bs.length
 row:Row wr a c (L.take n)
 new:∀k,(Value.slice a n c).ownBlock=some k→w.heap.size≤k∧¬S' k
 nil:n=0→a=none∧c=0
section
variable {M:zc} {w wr w2 w5:World} {bd bs:Nat} {S S' S2:Nat→Prop} {D D' D2:Dk} {V:qe} {L KK:List qa} {m i n q c c2:Nat} {a:Option Addr}
structure Up (M:zc) (w w5:World) (bd bs:Nat) (S:Nat→Prop) (D:Dk) (V:qe) (L:List qa) (i n:Nat) (a5:Option Addr) (c5:Nat) (S2:Nat→Prop) (D2:Dk):Prop where
 fore:zR M w5 bd bs S2 D2 V
 foot:∀k,S2 k→S k∨w.heap.size≤k
 kept:Kept (fun k=>S k∨k=bs) w w5
 reads0:D.reads≤D2.reads
 reads1:D2.reads≤D.reads+1000*((i:Int)+1)
 size:D2.bs.length=D.bs.length
 row:Row w5 a5 c5 (L.take n)
 new:∀k,(Value.slice a5 n c5).ownBlock=some k→w.heap.size≤k∧¬S2 k
end
end keep
namespace keep
open Go.ChangeShapes Go.WideShapes Go.ChangeAt Go.RowKit disk ref book
open law (qe zc qv yj gj zR jI gG KW bt)
open keys (ze zd zr zn zu)
theorem Qr(v:qa):dV v ByteArray.empty ByteArray.empty 0=true:=by unfold dV;simp
theorem Qc.all{vs L:List qa}(h:Qc vs ByteArray.empty ByteArray.empty 0 L):L.Perm vs:=by
 have:=h.perm
 rwa [List.filter_eq_self.2 (fun v _=>Qr v)] at this
section
variable {M:zc} {w w':World} {bd bs:Nat} {S S':Nat→Prop} {D D':Dk} {V:qe} {most:Int}
theorem zR.aft(F:zR M w bd bs S D V)(h:jI M w w' bd bs S S' D D' most (some bd))(hl:M.Live D' V)(hr:D'.reads≤2305843009213693952):zR M w' bd bs S' D' V:=
 ⟨h.disk,fun hk=>by
  rcases h.foot bs hk with h1|h1
  ·exact F.apart h1
  ·have:=M.sto_lt _ _ _ F.sto;omega,h.sto,hl,h.fuse,by have:=F.reads0;have:=h.reads0;omega,hr,F.few⟩
end
end keep
namespace law
open Go.ChangeShapes Go.WideShapes Go.ChangeAt Go.RowKit disk ref book
open keys (ze zd zr zn zu)
structure KY (M:zc):Prop where
 live:∀(w:World) (bd bs:Nat) (S:Nat→Prop) (D:Dk) (V:qe) (key:ByteArray),zR M w bd bs S D V→key.size≤maxLen→
  Calls Tryz.prog 30 #[.pointer (some ⟨bs,0,none⟩),.string key] w fun e w'=>∃D' S' c n q,e=.returned (.tuple #[.int .i64 n,.int .i64 c])∧jI M w w' bd bs S S' D D' 40 q∧
   Chg M D D' V (V.add key true []) bd (qO (zu key.data.toList) (Vk V.vs key)) c 1 q∧n=if c=0 then V.n0+1 else 0
 shut:∀(w:World) (bs:Nat) (key:ByteArray),M.Sto w bs none→key.size≤maxLen→
  Calls Tryz.prog 30 #[.pointer (some ⟨bs,0,none⟩),.string key] w fun e w'=>e=.returned (.tuple #[.int .i64 0,.int .i64 (if zu key.data.toList=true then 8 else 2)])∧M.Sto w' bs none∧Kept (fun k=>k=bs) w w'
end law
namespace keep
open Go.RowKit disk ref book
open law (qe zc qv yj gj Qm KY ym zR jI Chg Yt OutIs Good)
open keys (zu)
def Vo(bd bs:Nat)(l:Value)(last:Int):Obj:=.cells #[.pointer (some ⟨bd,0,none⟩),.pointer (some ⟨bs,0,none⟩),l,.int .i64 last,.int .i64 (-1),.int .i64 0,.bool true] 33 (0,0)
structure VH (M:zc) (w0 w:World) (bp bd bs:Nat) (O:Obj) (S:Nat→Prop) (D:Dk) (V:qe):Prop where
 fore:zR M w bd bs S D V
 head:w.heap[bp]? =some O
 pS:¬S bp
 pb:bp≠bs
 low:∀k,S k→w0.heap.size≤k
 lowb:w0.heap.size≤bs
 kept:Kept (fun k=>w0.heap.size≤k) w0 w
 size:D.bs.length=1000
structure Vp (w:World) (S:Nat→Prop) (bs:Nat) (e:TypeId) (sz:Nat) (v:Value) (n:Nat) (xs:List Value):Prop where
 row:w.ownsRow 0 e sz v n xs
 far:∀k,v.ownBlock=some k→¬S k∧k≠bs
section
variable {M:zc} {w0 w w':World} {bp bd bs:Nat} {O:Obj} {S S':Nat→Prop} {D D':Dk} {V V':qe} {most:Int}
theorem VH.lt(h:VH M w0 w bp bd bs O S D V):bp<w.heap.size:=(lT h.head)
theorem VH.c1{l:Value}{n:Int}(h:VH M w0 w bp bd bs (Vo bd bs l n) S D V):w.cell? ⟨bp,1,none⟩=some (.pointer (some ⟨bs,0,none⟩)):=(cell_of_row w bp 1 _ _ _ h.head).trans rfl
def Ud(V:qe)(key:ByteArray):Int:=gy true (yJ V.vs key)
def Ue(V:qe)(key:ByteArray):Int:=match yJ V.vs key with
 |some u=>if u.mark then 0 else u.num
 |none=>0
def Uf(V:qe)(key:ByteArray):List UInt8:=match yJ V.vs key with
 |some u=>if u.mark then [] else u.body
 |none=>[]
structure VX (w:World) (S:Nat→Prop) (bs:Nat) (a:Option Addr) (cap:Nat) (l:List UInt8):Prop where
 row:l=[]∨Vp w S bs 5 1 (.slice a l.length cap) l.length (l.map qc)
theorem VX.bytes{a:Option Addr}{cap:Nat}{l:List UInt8}(h:VX w S bs a cap l):zv w (fun _=>True) a l:=by
 rcases h.row with h|h
 ·exact .inl h
 ·exact zv.of_own 5 h.row rfl _ (fun _ _=>trivial)
end
end keep
end Go.Proofs.YtcoengihaobddaaGreatDoor

/- Part 10 of 26 of a proof: Law15, Keep10, Keep14, Keep15, Keep16 -/
import Derived.Test.YtcoengihaobddaaGreatDoorJt09
set_option maxHeartbeats 8000000
set_option linter.unusedVariables false
set_option linter.unusedSimpArgs false
set_option maxRecDepth 8000
namespace Go.Proofs.YtcoengihaobddaaGreatDoor
namespace law
open Go.ChangeShapes Go.WideShapes Go.ChangeAt Go.RowKit disk ref book
open keys (zj zc zs zm zr)
structure QK (M:ze):Prop where
 live:∀(w:World) (bd bs:Nat) (S:Nat→Prop) (D:Dk) (V:qz) (key:ByteArray) (num:Int),qU M w bd bs S D V→key.size≤maxLen→zF num→
  Calls Tryz.prog 31 #[.pointer (some ⟨bs,0,none⟩),.string key,.int .i64 num] w fun e w'=>∃D' S' c q,e=.returned (.int .i64 c)∧x8 M w w' bd bs S S' D D' 40 q∧
   Chg M D D' V (V.sub key num) bd (XO (zr key.data.toList) (yO V.vs key num)) c 0 q
 shut:∀(w:World) (bs:Nat) (key:ByteArray) (num:Int),M.Sto w bs none→key.size≤maxLen→
  Calls Tryz.prog 31 #[.pointer (some ⟨bs,0,none⟩),.string key,.int .i64 num] w fun e w'=>e=.returned (.int .i64 (if zr key.data.toList=true then 8 else 2))∧M.Sto w' bs none∧za (fun k=>k=bs) w w'
end law
namespace keep
open Go.RowKit disk ref book
open law (qz ze yb yI yB QD Xg QK qU x8 Chg XC OutIs Good)
open keys (zr)
def Xe(bd bs:Nat)(l:Value)(last:Int):Obj:=.cells #[.pointer (some ⟨bd,0,none⟩),.pointer (some ⟨bs,0,none⟩),l,.int .i64 last,.int .i64 (-1),.int .i64 0,.bool true] 33 (0,0)
structure xW (M:ze) (w0 w:World) (bp bd bs:Nat) (O:Obj) (S:Nat→Prop) (D:Dk) (V:qz):Prop where
 fore:qU M w bd bs S D V
 head:w.heap[bp]? =some O
 pS:¬S bp
 pb:bp≠bs
 low:∀k,S k→w0.heap.size≤k
 lowb:w0.heap.size≤bs
 kept:za (fun k=>w0.heap.size≤k) w0 w
 size:D.bs.length=1000
structure xU (w:World) (S:Nat→Prop) (bs:Nat) (e:TypeId) (sz:Nat) (v:Value) (n:Nat) (xs:List Value):Prop where
 row:w.ownsRow 0 e sz v n xs
 far:∀k,v.ownBlock=some k→¬S k∧k≠bs
section
variable {M:ze} {w0 w w':World} {bp bd bs:Nat} {O:Obj} {S S':Nat→Prop} {D D':Dk} {V V':qz} {most:Int}
theorem xW.lt(h:xW M w0 w bp bd bs O S D V):bp<w.heap.size:=(lT h.head)
theorem xW.bs_lt(h:xW M w0 w bp bd bs O S D V):bs<w.heap.size:=M.sto_lt _ _ _ h.fore.sto
theorem xW.keep(h:xW M w0 w bp bd bs O S D V)(k:za (fun _=>False) w w'):xW M w0 w' bp bd bs O S D V:=
 ⟨qU.kept h.fore k nF (fun hf=>hf),(k.block bp h.lt (fun hf=>hf)).trans h.head,h.pS,h.pb,h.low,h.lowb,h.kept.trans k fE,h.size⟩
theorem xW.aft(h:xW M w0 w bp bd bs O S D V)(ha:x8 M w w' bd bs S S' D D' most (some bd))(hl:M.Live D' V')(hr:D'.reads≤2305843009213693952)(hn:V'.n0≤2305843009213693952):xW M w0 w' bp bd bs O S' D' V':=by
 have h1:=x8.far ha h.lt h.pS h.pb
 refine⟨⟨ha.disk,fun hk=>?_,ha.sto,hl,ha.fuse,by have:=h.fore.reads0;have:=ha.reads0;omega,hr,hn⟩,h1.1.trans h.head,h1.2,h.pb,fun k hk=>?_,h.lowb,h.kept.trans ha.kept (fun k hk=>.inl ?_),ha.size.trans h.size⟩
 ·rcases ha.foot bs hk with h2|h2
  ·exact h.fore.apart h2
  ·have:=h.bs_lt;omega
 ·rcases ha.foot k hk with h2|h2
  ·exact h.low k h2
  ·have:=h.kept.size;omega
 ·rcases hk with hk|hk
  ·exact h.low k hk
  ·rw [hk];exact h.lowb
theorem xW.c1{l:Value}{n:Int}(h:xW M w0 w bp bd bs (Xe bd bs l n) S D V):w.cell? ⟨bp,1,none⟩=some (.pointer (some ⟨bs,0,none⟩)):=(cell_of_row w bp 1 _ _ _ h.head).trans rfl
theorem xW.end(h:xW M w0 w bp bd bs O S D V):za (fun _=>False) w0 w:=⟨h.kept.os,h.kept.tape,h.kept.output,h.kept.size,fun k hk _=>h.kept.block k hk (by omega)⟩
theorem xU.keep{e:TypeId}{sz n:Nat}{v:Value}{xs:List Value}(h:xU w S bs e sz v n xs)(k:za (fun _=>False) w w'):xU w' S bs e sz v n xs:=⟨k.owns h.row nF,h.far⟩
theorem xU.aft{e:TypeId}{sz n:Nat}{v:Value}{xs:List Value}(h:xU w S bs e sz v n xs)(ha:x8 M w w' bd bs S S' D D' most (some bd)):xU w' S' bs e sz v n xs:=
 ⟨ha.kept.owns h.row (fun k hk hc=>hc.elim (h.far k hk).1 (h.far k hk).2),fun k hk=>⟨(x8.far ha (h.row.lt k hk).2 (h.far k hk).1 (h.far k hk).2).2,(h.far k hk).2⟩⟩
def X8(V:qz)(key:ByteArray):Int:=uQ true (yk V.vs key)
def X9(V:qz)(key:ByteArray):Int:=match yk V.vs key with
 |some u=>if u.mark then 0 else u.num
 |none=>0
def Ja(V:qz)(key:ByteArray):List UInt8:=match yk V.vs key with
 |some u=>if u.mark then [] else u.body
 |none=>[]
structure XS (w:World) (S:Nat→Prop) (bs:Nat) (a:Option Addr) (cap:Nat) (l:List UInt8):Prop where
 row:l=[]∨xU w S bs 5 1 (.slice a l.length cap) l.length (l.map zP)
theorem XS.bytes{a:Option Addr}{cap:Nat}{l:List UInt8}(h:XS w S bs a cap l):zt w (fun _=>True) a l:=by
 rcases h.row with h|h
 ·exact .inl h
 ·exact zt.of_own 5 h.row rfl _ (fun _ _=>trivial)
theorem yr.sit{X:Nat→Prop}{a:Option Addr}{cap:Nat}{cs:List (List Value)}{G:Nat→Prop}(h:yr M w X bp bd bs S D V a cap cs G)(hk:za (fun _=>False) w0 w)(hx:∀k,X k→w0.heap.size≤k):xW M w0 w bp bd bs (Xe bd bs (.slice a V.vs.length cap) V.n0) S D V:=
 ⟨h.fore,h.head,h.pS,h.pb,fun k hk=>hx k (h.xS k hk),hx bs h.xb,hk.mono fE,h.size⟩
end
end keep
namespace keep
open Go.ChangeShapes Go.WideShapes Go.ChangeAt Go.RowKit disk ref book
open law (qz ze yb vV qU x8 Xw XC OutIs)
open keys (zj zc zs zm zr)
def vp(w:World)(Q:Nat→Prop)(a:Option Addr)(ks:List Bool):Prop:=∀j,j<ks.length→∃kb ko,a=some ⟨kb,ko,none⟩∧Q kb∧kb<w.heap.size∧w.cell? ⟨kb,ko+j,none⟩=some (.bool (ks.getD j false))
theorem vp.kept{w w':World}{Q T:Nat→Prop}{a:Option Addr}{ks:List Bool}(h:vp w Q a ks)(k:za T w w')(hn:∀i,Q i→¬T i):vp w' Q a ks:=fun j hj=>by
 obtain⟨kb,ko,h1,h2,h3,h4⟩:=h j hj
 exact⟨kb,ko,h1,h2,Nat.lt_of_lt_of_le h3 k.size,(k.cell (a:=⟨kb,ko+j,none⟩) h3 (hn kb h2)).trans h4⟩
def qq(d s l:Value)(last:Int):Obj:=.cells #[d,s,l,.int .i64 last,.int .i64 (-1),.int .i64 0,.bool true] 33 (0,0)
theorem yC{w:World}{bp:Nat}{d s l:Value}{last:Int}(h:w.heap[bp]? =some (qq d s l last)):w.cell? ⟨bp,0,none⟩=some d∧w.cell? ⟨bp,1,none⟩=some s∧w.cell? ⟨bp,2,none⟩=some l∧w.cell? ⟨bp,4,none⟩=some (.int .i64 (-1))∧w.cell? ⟨bp,6,none⟩=some (.bool true)∧∀i,w.frozen? ⟨bp,i,none⟩=false:=by
 unfold qq at h
 refine⟨?_,?_,?_,?_,?_,fun i=>frozen_of_row w bp i _ _ h⟩<;>rw [cell_of_row w bp _ _ _ _ h]<;>rfl
section
variable {M:ze} {w0 w w':World} {bp bd bs:Nat} {O:Obj} {S S':Nat→Prop} {D D':Dk} {V V':qz} {most:Int}
theorem fU(A:yb M)(hM:∀f,M.Fu f→f≠0)(hd:zh w bd S D)(hl:M.Live D V)(hf:M.Fu D.fuse)(hr0:0≤D.reads)(hr1:D.reads≤1000000000000)(hz:D.bs.length=1000)(hn:V.n0≤1000000):
 Calls Tryz.prog 35 #[.pointer (some ⟨bd,0,none⟩)] w fun e w'=>∃bs S' D',e=.returned (.tuple #[.pointer (some ⟨bs,0,none⟩),.int .i64 0])∧qU M w' bd bs S' D' V∧w.heap.size≤bs∧(∀k,S' k→S k∨w.heap.size≤k)∧za S w w'∧D'.reads≤D.reads+2000∧D'.bs.length=1000:=by
 refine(A.big w bd S D (fun U=>U=V) hd hl.could hf hr0 (by omega)).mono ?_
 rintro e w' ⟨D',S',hop,⟨bs,U,rfl,hbs,hSbs,hsto,rfl,hlive⟩|⟨rfl,h0,hc⟩⟩
 ·have h1:=hop.reads0
  have h2:=hop.reads1
  rw [hz] at h2
  exact⟨bs,S',D',rfl,⟨hop.disk,hSbs,hsto,hlive,hop.fuse,by omega,by omega,by omega⟩,hbs,hop.foot,hop.kept,by omega,hop.size.trans hz⟩
 ·exact absurd h0 (hM _ hop.fuse)
theorem gr(hl:M.Live D V):M.Live {D with reads:=0} V:=⟨hl.ps,hl.rest,hl.big⟩
theorem Zz(hl:M.Live D V)(ks:List Bool):M.Live {D with bs:=zp D.bs (xV D.ps ks),ps:=[],fuse:= -1} V:=by
 refine⟨rfl,?_,?_⟩
 ·show M.Rest (zp D.bs (xV D.ps ks)) V
  rw [hl.ps];exact hl.rest
 ·show 64≤(zp D.bs (xV D.ps ks)).length
  rw [hl.ps];exact hl.big
theorem bD(A:yb M)(hM:∀f,M.Fu f→f≠0)(s l:Value)(last:Int)(hh:w.heap[bp]? =some (qq (.pointer (some ⟨bd,0,none⟩)) s l last))(hd:zh w bd S D)(hl:M.Live D V)(pS:¬S bp)(hz:D.bs.length=1000)(hn:V.n0≤1000000)(Q:Nat→Prop)(ka:Option Addr)(kc:Nat)(ks:List Bool)(hk:vp w Q ka ks)(hQ:∀k,Q k→¬S k)(hkl:ks.length≤140737488355326):
 Calls Tryz.prog 16 #[.pointer (some ⟨bp,0,none⟩),.slice ka ks.length kc] w fun e w'=>e=.returned (.tuple #[])∧∃bd' bs' S' D',w'.heap[bp]? =some (qq (.pointer (some ⟨bd',0,none⟩)) (.pointer (some ⟨bs',0,none⟩)) l last)∧qU M w' bd' bs' S' D' V∧w.heap.size≤bs'∧(∀k,S' k→w.heap.size≤k)∧za (fun k=>S k∨k=bp) w w'∧D'.reads≤2000∧D'.bs.length=1000:=by
 have hbp:bp<w.heap.size:=(lT hh)
 have HH:Hid (w.heap[bp]? =some (qq (.pointer (some ⟨bd,0,none⟩)) s l last)):=hh
 have HL:Hid (M.Live D V):=hl
 have HPS:Hid (¬S bp):=pS
 obtain⟨hc0,_,_,_,_,_⟩:=yC hh
 obtain⟨ba,pa,bc,pc,hda⟩:=hd
 have HDA:Hid (zi w bd S D ba pa bc pc):=hda
 have HKS:Hid (∀j,j<ks.length→∃kb ko,ka=some ⟨kb,ko,none⟩∧¬S kb∧kb<w.heap.size∧w.cell? ⟨kb,ko+j,none⟩=some (.bool (ks.getD j false))):=fun j hj=>by
  obtain⟨kb,ko,h1,h2,h3,h4⟩:=hk j hj
  exact⟨kb,ko,h1,hQ kb h2,h3,h4⟩
 clear hh hl pS hda hk hQ
 go_enter Tryz.func16,Tryz.ntmps16
 go_wp2_with fail
 refine(YP w bd S D ba pa bc pc HDA.out ka ks kc (by omega) HKS.out).mono ?_
 rintro e w1 ⟨rfl,⟨S1,hd1,hS1⟩,hk1⟩
 have hh1:w1.heap[bp]? =_:=(hk1.block bp hbp HPS.out).trans HH.out
 obtain⟨hc01,_,_,_,_,_⟩:=yC hh1
 have HH1:Hid (w1.heap[bp]? =some (qq (.pointer (some ⟨bd,0,none⟩)) s l last)):=hh1
 have HK1:Hid (za S w w1):=hk1
 have hs1:=hk1.size
 have hl1:=Zz HL.out ks
 have hz1:(zp D.bs (xV D.ps ks)).length=1000:=by rw [qh];exact hz
 have hf1:M.Fu (-1):=M.fu_neg
 generalize hD1:({D with bs:=zp D.bs (xV D.ps ks),ps:=[],fuse:= -1}:Dk)=D1 at*
 have hz1':D1.bs.length=1000:=by rw [←hD1];exact hz1
 have hf1':M.Fu D1.fuse:=by rw [←hD1];exact hf1
 have hp1:D1.ps.length≤68719476736:=by rw [←hD1];simp
 obtain⟨ba1,pa1,bc1,pc1,hda1⟩:=hd1
 have HD1:Hid (zi w1 bd S1 D1 ba1 pa1 bc1 pc1):=hda1
 have HL1:Hid (M.Live D1 V):=hl1
 have HF1:Hid (M.Fu D1.fuse):=hf1'
 clear hh1 hk1 hl1 hz1 hf1 hda1 hD1 hS1
 go_wp2_with fail
 refine(cH w1 bd S1 D1 ba1 pa1 bc1 pc1 HD1.out hp1).mono ?_
 rintro e w2 ⟨rfl,⟨S2,hd2,hS2⟩,hk2⟩
 have hh2:w2.heap[bp]? =_:=(hk2.block bp (by omega) (fun hf=>hf)).trans HH1.out
 obtain⟨hc02,_,_,_,_,hfz2⟩:=yC hh2
 have hf02:=hfz2 0
 have HH2:Hid (w2.heap[bp]? =some (qq (.pointer (some ⟨bd,0,none⟩)) s l last)):=hh2
 have HK2:Hid (za (fun _=>False) w1 w2):=hk2
 have hs2:=hk2.size
 have HD2:Hid (zh w2 w1.heap.size S2 {D1 with reads:=0 }):=hd2
 have HS2:Hid (∀k,S2 k→w1.heap.size≤k):=hS2
 clear hh2 hk2 hd2 hS2 hfz2
 go_wp2_with fail
 have hh3:(w2.setCell ⟨bp,0,none⟩ (.pointer (some ⟨w1.heap.size,0,none⟩))).heap[bp]? =some (qq (.pointer (some ⟨w1.heap.size,0,none⟩)) s l last):=heap_setCell_same w2 bp 0 _ _ _ HH2.out
 have k3:=za.setCell (S:=fun k=>k=bp) w2 ⟨bp,0,none⟩ (.pointer (some ⟨w1.heap.size,0,none⟩)) rfl
 generalize w2.setCell ⟨bp,0,none⟩ (.pointer (some ⟨w1.heap.size,0,none⟩))=w3 at*
 have hd3:zh w3 w1.heap.size S2 {D1 with reads:=0}:=HD2.out.kept k3 (fun k hk e=>by have:=HS2.out k hk;have e':k=bp:=e;omega)
 have HK3:Hid (za (fun k=>k=bp) w2 w3):=k3
 have hs3:=k3.size
 refine(fU A hM hd3 (gr HL1.out) (by exact HF1.out) (by show (0:Int)≤0;omega) (by show (0:Int)≤_;omega) (by exact hz1') hn).mono ?_
 rintro e w4 ⟨bs',S4,D4,rfl,hF4,hbs4,hS4,hk4,hr4,hz4⟩
 have hh4:w4.heap[bp]? =_:=(hk4.block bp (by omega) (fun hc=>by have:=HS2.out bp hc;omega)).trans hh3
 obtain⟨hc04,hc14,_,_,hc64,hfz4⟩:=yC hh4
 have hf14:=hfz4 1
 have hf64:=hfz4 6
 have HH4:Hid (w4.heap[bp]? =some (qq (.pointer (some ⟨w1.heap.size,0,none⟩)) s l last)):=hh4
 have HF4:Hid (qU M w4 w1.heap.size bs' S4 D4 V):=hF4
 have HK4:Hid (za S2 w3 w4):=hk4
 have HS4:Hid (∀k,S4 k→w1.heap.size≤k):=fun k hk=>(hS4 k hk).elim (HS2.out k) (fun h=>by omega)
 have hs4:=hk4.size
 have hr4':D4.reads≤2000:=by have e:({D1 with reads:=0}:Dk).reads=0:=rfl;omega
 clear hh4 hF4 hk4 hS4 hfz4 hd3 k3 hh3
 go_wp2_with fail
 go_end0
 have hh5:((w4.setCell ⟨bp,1,none⟩ (.pointer (some ⟨bs',0,none⟩))).setCell ⟨bp,6,none⟩ (.bool true)).heap[bp]? =some (qq (.pointer (some ⟨w1.heap.size,0,none⟩)) (.pointer (some ⟨bs',0,none⟩)) l last):=by
  have e1:=heap_setCell_same w4 bp 1 _ _ (.pointer (some ⟨bs',0,none⟩)) HH4.out
  exact heap_setCell_same _ bp 6 _ _ (.bool true) e1
 have k5:za (fun k=>k=bp) w4 ((w4.setCell ⟨bp,1,none⟩ (.pointer (some ⟨bs',0,none⟩))).setCell ⟨bp,6,none⟩ (.bool true)):=(za.setCell (S:=fun k=>k=bp) w4 ⟨bp,1,none⟩ _ rfl).trans (za.setCell (S:=fun k=>k=bp) _ ⟨bp,6,none⟩ _ rfl) iL
 refine⟨rfl,w1.heap.size,bs',S4,D4,hh5,qU.kept HF4.out k5 (fun k hk e=>by have:=HS4.out k hk;have e':k=bp:=e;omega) (fun e=>by omega),by omega,fun k hk=>by have:=HS4.out k hk;omega,?_,hr4',hz4⟩
 refine(((((HK1.out.mono iL).trans HK2.out fE).trans HK3.out (fun k hk=>.inl (.inr hk))).trans HK4.out (fun k hk=>.inr ?_))).trans k5 (fun k hk=>.inl (.inr hk))
 have:=HS2.out k hk;omega
end
theorem gt{vs:List zI}(h:jO vs){v:zI}(hv:v∈vs):yO vs v.key v.num=some v:=by
 cases hf:yO vs v.key v.num with
 |none=>exact absurd ⟨rfl,rfl⟩ (gj hf v hv)
 |some u=>
  obtain⟨h1,h2,h3⟩:=kj hf
  obtain⟨i,hi,rfl⟩:=List.getElem_of_mem h3
  obtain⟨j,hj,rfl⟩:=List.getElem_of_mem hv
  unfold jO at h
  rw [List.pairwise_iff_getElem] at h
  rcases Nat.lt_trichotomy i j with hij|hij|hij
  ·exact absurd ⟨h1,h2⟩ (h i j hi hj hij)
  ·subst hij;rfl
  ·exact absurd ⟨h1.symm,h2.symm⟩ (h j i hj hi hij)
section
variable {M:ze} {w0 w w':World} {bp bd bs:Nat} {O:Obj} {S S':Nat→Prop} {D D':Dk} {V V':qz} {most:Int}
theorem Xh(A:vV M)(h:xW M w0 w bp bd bs O S D V)(hr:D.reads≤1000000000000)(v:zI)(hv:v∈V.vs)(hm:v.mark=false):
 Calls Tryz.prog 42 #[.pointer (some ⟨bs,0,none⟩),.string v.key,.int .i64 v.num] w fun e w'=>∃S' D' a cap,e=.returned (.tuple #[.slice a v.body.length cap,.int .i64 0])∧x8 M w w' bd bs S S' D D' 40 (some bd)∧xW M w0 w' bp bd bs O S' D' V∧D'.reads≤D.reads+40∧XS w' S' bs a cap v.body:=by
 have hg:=h.fore.live.good
 have hk:=hg.key v hv
 have hks:=fT hk
 have hn:=hg.num v hv
 have hf:=h.fore.few
 refine(A.live w bd bs S D V v.key v.num h.fore (by unfold maxLen;omega) ⟨by omega,by omega⟩).mono ?_
 rintro e w' ⟨D',x,S',rfl,ha,hl,hout,hx⟩
 have e1:uQ (zr v.key.data.toList) (yO V.vs v.key v.num)=0:=by
  rw [hk,gt hg.apart hv]
  show cond v.mark 5 0=0
  rw [hm];rfl
 rw [e1] at hout ⊢
 obtain⟨u,hu,a,cap,rfl,hrow,hfr⟩:=hout.1 rfl
 rw [gt hg.apart hv] at hu
 obtain rfl:v=u:=by simpa using hu
 exact⟨S',D',a,cap,rfl,ha,h.aft ha hl (by have:=ha.reads1;omega) h.fore.few,ha.reads1,⟨.inr ⟨hrow,fun k hk=>⟨hx k hk,by have:=hfr k hk;have:=h.bs_lt;omega⟩⟩⟩⟩
structure qE (w:World) (S:Nat→Prop) (bs:Nat) (a:Option Addr) (cap:Nat) (cs:List (List Value)) (G:Nat→Prop) (vs:List zI):Prop where
 row:xU w S bs 85 3 (.slice a vs.length cap) vs.length cs.flatten
 told:Told w G cs vs
 far:∀k,G k→¬S k∧k≠bs∧k<w.heap.size
variable {a:Option Addr} {cap:Nat} {cs:List (List Value)} {G:Nat→Prop} {vs:List zI}
theorem qE.keep(h:qE w S bs a cap cs G vs)(k:za (fun _=>False) w w'):qE w' S bs a cap cs G vs:=⟨h.row.keep k,h.told.kept k nF,fun i hi=>⟨(h.far i hi).1,(h.far i hi).2.1,Nat.lt_of_lt_of_le (h.far i hi).2.2 k.size⟩⟩
theorem qE.aft(h:qE w S bs a cap cs G vs)(ha:x8 M w w' bd bs S S' D D' most (some bd)):qE w' S' bs a cap cs G vs:=
 ⟨h.row.aft ha,h.told.kept ha.kept (fun i hi hc=>hc.elim (h.far i hi).1 (h.far i hi).2.1),fun i hi=>⟨(x8.far ha (h.far i hi).2.2 (h.far i hi).1 (h.far i hi).2.1).2,(h.far i hi).2.1,Nat.lt_of_lt_of_le (h.far i hi).2.2 ha.kept.size⟩⟩
theorem qE.cells(h:qE w S bs a cap cs G vs)(h0:0<vs.length):∃g,a=some ⟨g,0,none⟩∧∀i (hi:i<vs.length),w.cell? ⟨g,i*3,none⟩=some (.string vs[i].key)∧w.cell? ⟨g,i*3+1,none⟩=some (.int .i64 vs[i].num)∧∃a' cap',w.cell? ⟨g,i*3+2,none⟩=some (.slice a' vs[i].body.length cap')∧zt w G a' vs[i].body:=by
 obtain⟨g,rfl⟩:∃g,a=some ⟨g,0,none⟩:=by
  rcases h.row.row.2 with⟨h0',h1⟩|⟨g,cap',cur,hv,_⟩
  ·simp at h0';omega
  ·cases hv;exact⟨g,rfl⟩
 refine⟨g,rfl,fun i hi=>?_⟩
 have hl:=h.told.len
 have hr:=h.row.row
 rw [←hl] at hr
 have hx:=qI hr h.told.three i (by rw [hl];exact hi)
 obtain⟨a',cap',e,hb⟩:=(h.told.each i (by rw [hl];exact hi) hi).at_
 rw [e] at hx
 exact⟨hx 0 _ rfl,hx 1 _ rfl,a',cap',hx 2 _ rfl,hb⟩
set_option maxRecDepth 60000 in
theorem ZA(A:vV M)(last:Int)(h:xW M w0 w bp bd bs (qq (.pointer (some ⟨bd,0,none⟩)) (.pointer (some ⟨bs,0,none⟩)) (.slice a V.vs.length cap) last) S D V)(hg:qE w S bs a cap cs G V.vs)(hr:D.reads≤1000000000)(hl:V.vs.length≤1000)(hm:∀v∈V.vs,v.mark=false):
 Calls Tryz.prog 17 #[.pointer (some ⟨bp,0,none⟩)] w fun e w'=>e=.returned (.bool true)∧∃S' D',xW M w0 w' bp bd bs (qq (.pointer (some ⟨bd,0,none⟩)) (.pointer (some ⟨bs,0,none⟩)) (.slice a V.vs.length cap) last) S' D' V:=by
 have HH:Hid (xW M w0 w bp bd bs (qq (.pointer (some ⟨bd,0,none⟩)) (.pointer (some ⟨bs,0,none⟩)) (.slice a V.vs.length cap) last) S D V):=h
 have HG:Hid (qE w S bs a cap cs G V.vs):=hg
 have HM:Hid (∀v∈V.vs,v.mark=false):=hm
 have HBB:Hid (∀v∈V.vs,v.body.length≤300):=h.fore.live.good.body
 clear h hg hm
 go_enter Tryz.func17,Tryz.ntmps17
 go_wp2_with fail
 go_loopw [3] (fun t wr=>∃i:Nat,i≤V.vs.length∧t=.int .i64 i∧∃S' D',xW M w0 wr bp bd bs (qq (.pointer (some ⟨bd,0,none⟩)) (.pointer (some ⟨bs,0,none⟩)) (.slice a V.vs.length cap) last) S' D' V∧qE wr S' bs a cap cs G V.vs∧D'.reads≤D.reads+40*(i:Int)) (fun t _=>V.vs.length-(intOf t).toNat)
 case atStart=>exact⟨0,Nat.zero_le _,rfl,S,D,HH.out,HG.out,by omega⟩
 case round=>
  obtain⟨i,hi,rfl,S',D',hs,hg,hr'⟩:=hrel
  have HS:Hid (xW M w0 wr bp bd bs (qq (.pointer (some ⟨bd,0,none⟩)) (.pointer (some ⟨bs,0,none⟩)) (.slice a V.vs.length cap) last) S' D' V):=hs
  have HGW:Hid (qE wr S' bs a cap cs G V.vs):=hg
  obtain⟨_,hc1,hc2,_,_,_⟩:=yC hs.head
  clear hs hg
  by_cases hlt:i<V.vs.length
  ·have hiI:(i:Int)<(V.vs.length:Int):=by omega
   obtain⟨g,rfl,hcl⟩:=HGW.out.cells (by omega)
   obtain⟨k0,k1,_⟩:=hcl i hlt
   have HMEM:Hid (V.vs[i]∈V.vs):=List.getElem_mem hlt
   have HVI:Hid (V.vs[i]? =some V.vs[i]):=by show _=_;simp
   generalize V.vs[i]=v at*
   clear hcl
   go_wp2_with fail
   have hvb:=HBB.out v HMEM.out
   have HEV:Hid (V.vs[i]=v):=by show V.vs[i]=v;have:=HVI.out;rw [List.getElem?_eq_getElem hlt] at this;exact Option.some.inj this
   go_region_held3 (fun w'=>w'.cell? ⟨bp,1,none⟩=some (.pointer (some ⟨bs,0,none⟩))∧w'.cell? ⟨bp,2,none⟩=some (.slice (some ⟨g,0,none⟩) V.vs.length cap)∧w'.cell? ⟨g,i*3,none⟩=some (.string v.key)∧w'.cell? ⟨g,i*3+1,none⟩=some (.int .i64 v.num)) (go_keep) ((go_at_call 42;refine(Xh A (HS.out.keep (za.drew (fun _=>False) wr)) (by omega) v HMEM.out (HM.out v HMEM.out)).mono ?_;rintro e w2 ⟨S2,D2,a2,c2,rfl,ha2,hs2,hr2,hg2⟩;have HS2:Hid (xW M w0 w2 bp bd bs (qq (.pointer (some ⟨bd,0,none⟩)) (.pointer (some ⟨bs,0,none⟩)) (.slice (some ⟨g,0,none⟩) V.vs.length cap) last) S2 D2 V):=hs2;have hgw2:=(HGW.out.keep (za.drew (fun _=>False) wr)).aft ha2;have HG2:Hid (qE w2 S2 bs (some ⟨g,0,none⟩) cap cs G V.vs):=hgw2;have HB2:Hid (zt w2 (fun _=>True) a2 v.body):=hg2.bytes;obtain⟨_,hc12,hc22,_,_,_⟩:=yC hs2.head;obtain⟨g',e',hcl2⟩:=hgw2.cells (by omega);obtain rfl:g=g':=(by simpa using e');obtain⟨k02,k12,a3,c3,k2,hb3⟩:=hcl2 i hlt;rw [HEV.out] at k02 k12 k2 hb3;have HB3:Hid (zt w2 G a3 v.body):=hb3;clear ha2 hs2 hg2 hgw2 hcl2 hb3 e'))
   go_wp2_with fail
   refine(QH w2 (fun _=>True) G a2 a3 c2 c3 v.body HB2.out HB3.out (by omega)).mono ?_
   rintro e w3 ⟨rfl,n3,hw3⟩
   have k3:za (fun _=>False) w2 w3:=by rw [hw3];exact kD
   have HS3:Hid (xW M w0 w3 bp bd bs (qq (.pointer (some ⟨bd,0,none⟩)) (.pointer (some ⟨bs,0,none⟩)) (.slice (some ⟨g,0,none⟩) V.vs.length cap) last) S2 D2 V):=HS2.out.keep k3
   have HG3:Hid (qE w3 S2 bs (some ⟨g,0,none⟩) cap cs G V.vs):=HG2.out.keep k3
   clear hw3 k3
   go_wp2
   go_roundw
   case rel=>exact⟨i+1,by omega,by go_num,S2,D2,HS3.out,HG3.out,by push_cast;omega⟩
   case measure=>simp [intOf];omega
  ·have hd:decide ((i:Int)<(V.vs.length:Int))=false:=decide_eq_false (by omega)
   go_wp2
   go_ret
   exact⟨rfl,S',D',HS.out⟩
end
end keep
namespace keep
open Go.ChangeShapes Go.WideShapes Go.ChangeAt Go.RowKit disk ref book
open law (qz ze yb yI yB vV qU x8 zY)
open keys (zj zc zs zm zr)
section
variable {M:ze} {w0 w w':World} {bp bd bs bs':Nat} {O:Obj} {S S' T:Nat→Prop} {D D':Dk} {V V':qz} {most:Int} {a:Option Addr} {cap:Nat} {cs:List (List Value)} {G:Nat→Prop} {vs:List zI}
theorem xU.move{e:TypeId}{sz n:Nat}{v:Value}{xs:List Value}(h:xU w S bs e sz v n xs)(k:za T w w')(hT:∀k,v.ownBlock=some k→¬T k)(hf:∀k,v.ownBlock=some k→¬S' k∧k≠bs'):xU w' S' bs' e sz v n xs:=⟨k.owns h.row hT,hf⟩
theorem qE.move(h:qE w S bs a cap cs G vs)(k:za T w w')(hT:∀k,((Value.slice a vs.length cap).ownBlock=some k∨G k)→¬T k)(hf:∀k,((Value.slice a vs.length cap).ownBlock=some k∨G k)→¬S' k∧k≠bs'):qE w' S' bs' a cap cs G vs:=
 ⟨h.row.move k (fun i hi=>hT i (.inl hi)) (fun i hi=>hf i (.inl hi)),h.told.kept k (fun i hi=>hT i (.inr hi)),fun i hi=>⟨(hf i (.inr hi)).1,(hf i (.inr hi)).2,Nat.lt_of_lt_of_le (h.far i hi).2.2 k.size⟩⟩
theorem v7(A:yB M)(h:xW M w0 w bp bd bs O S D V)(hr:D.reads≤1000000000000)(hlen:V.vs.length≤1000)(m:Nat)(m1:1≤m)(m2:m≤50):
 Calls Tryz.prog 20 #[.pointer (some ⟨bs,0,none⟩),.string ⟨#[]⟩,.int .i64 (m:Int)] w fun e w'=>∃S' D' a c L,e=.returned (.tuple #[.slice a L.length c,.bool true])∧x8 M w w' bd bs S S' D D' 2000000 (some bd)∧xW M w0 w' bp bd bs O S' D' V∧D'.reads≤D.reads+2000000∧qB V.vs ByteArray.empty ByteArray.empty 0 L∧xU w' S' bs 94 4 (.slice a L.length c) L.length (zY L)∧∀k,(Value.slice a L.length c).ownBlock=some k→w.heap.size≤k:=by
 refine(bB M A w bd bs S D V h.fore ⟨#[]⟩ (.inl rfl) (by decide) m m1 m2 hlen hr).mono ?_
 rintro e w' ⟨D',S',a,c,L,rfl,ha,hl,hL,hrow,hnew⟩
 exact⟨S',D',a,c,L,rfl,ha,h.aft ha hl (by have:=ha.reads1;omega) h.fore.few,ha.reads1,hL,⟨hrow,fun k hk=>⟨(hnew k hk).2,by have:=(hnew k hk).1;have:=h.bs_lt;omega⟩⟩,fun k hk=>(hnew k hk).1⟩
end
set_option maxRecDepth 60000 in
theorem ZB(M:ze)(AO:yb M)(AP:yI M)(AA:vV M)(AL:yB M)(hM:∀f,M.Fu f→f≠0)(w:World)(Q:Nat→Prop)(hQ:∀k,Q k→k<w.heap.size)(a:Option Addr)(cap:Nat)(ods:List fS)(h:YS w Q a ods)(hlen:ods.length≤2000000000000)
 (ka:Option Addr) (kc:Nat) (ks:List Bool) (hks:vp w Q ka ks) (hkl:ks.length≤140737488355326):
 Calls Tryz.prog 12 #[.slice a ods.length cap,.slice ka ks.length kc] w fun e w'=>e=.returned (.bool true)∧za (fun _=>False) w w':=by
 have HC:Hid (YS w Q a ods):=h
 have HQ:Hid (∀k,Q k→k<w.heap.size):=hQ
 have HKS:Hid (vp w Q ka ks):=hks
 clear h hQ hks
 go_enter Tryz.func12,Tryz.ntmps12
 go_wp2_with fail
 refine(bA M AO AP hM _ Q HQ.out a cap ods HC.out hlen).mono ?_
 rintro e w1 ⟨X,bp,D,V,rfl,⟨bd,bs,S,a',cap',cs',G',hs⟩,hfit,hk1,hx,hmk⟩
 have hsit:=hs.sit hk1 hx
 have hgoods:qE w1 S bs a' cap' cs' G' V.vs:=⟨⟨hs.row,fun k hk=>⟨(hs.rS k hk).1,(hs.rS k hk).2.1⟩⟩,hs.told,fun k hk=>⟨(hs.gS k hk).1,(hs.gS k hk).2.1,hs.xlt k (hs.xG k hk)⟩⟩
 have HGB:Hid (∀k,((Value.slice a' V.vs.length cap').ownBlock=some k∨G' k)→k≠bp∧k<w1.heap.size):=fun k hk=>hk.elim (fun h=>⟨(hs.rS k h).2.2,hs.xlt k (hs.xr k h)⟩) (fun h=>⟨(hs.gS k h).2.2.1,hs.xlt k (hs.xG k h)⟩)
 have HWP:Hid (w.heap.size≤bp):=hx bp hs.xp
 have hrd:=hfit.reads
 have hlw:=xI V.vs
 have hwt:=hfit.weight
 have hn0:=hfit.n0
 have HMK:Hid (∀v∈V.vs,v.mark=false):=hmk
 have HS1:Hid (xW M w w1 bp bd bs (qq (.pointer (some ⟨bd,0,none⟩)) (.pointer (some ⟨bs,0,none⟩)) (.slice a' V.vs.length cap') V.n0) S D V):=hsit
 have HG1:Hid (qE w1 S bs a' cap' cs' G' V.vs):=hgoods
 have hvl:V.vs.length≤473:=by omega
 have hbp:=hs.lt
 obtain⟨_,hc1,hc2,_,hc6,_⟩:=yC HS1.out.head
 have hw1:=hk1.size
 clear hs hk1 hx hfit hmk hsit hgoods
 go_wp2_with fail
 refine(v7 AL HS1.out (by omega) (by omega) 7 (by omega) (by omega)).mono ?_
 rintro e w2 ⟨S2,D2,a2,c2,L,rfl,ha2,hs2,hr2,hL,hm2,hnew2⟩
 have HS2:Hid (xW M w w2 bp bd bs (qq (.pointer (some ⟨bd,0,none⟩)) (.pointer (some ⟨bs,0,none⟩)) (.slice a' V.vs.length cap') V.n0) S2 D2 V):=hs2
 have HL:Hid (qB V.vs ByteArray.empty ByteArray.empty 0 L):=hL
 have HM2:Hid (xU w2 S2 bs 94 4 (.slice a2 L.length c2) L.length (zY L)):=hm2
 have HB2:Hid (∀k,(Value.slice a2 L.length c2).ownBlock=some k→k≠bp∧k<w2.heap.size):=fun k hk=>⟨by have:=hnew2 k hk;omega,(hm2.row.lt k hk).2⟩
 have HG2:Hid (qE w2 S2 bs a' cap' cs' G' V.vs):=HG1.out.aft ha2
 have hLb:L.length≤473:=by rw [(qB.all hL).length_eq];exact hvl
 obtain⟨hc02,_,_,_,_,hfz2⟩:=yC hs2.head
 have hw2:=ha2.kept.size
 have hp2:D2.ps.length≤68719476736:=by rw [hs2.fore.live.ps];simp
 obtain⟨xa,xp,xc,xq,hda⟩:=hs2.fore.disk
 have HDA:Hid (zi w2 bd S2 D2 xa xp xc xq):=hda
 clear ha2 hs2 hL hm2 hnew2 hda
 go_wp2_with fail
 refine(cH w2 bd S2 D2 xa xp xc xq HDA.out hp2).mono ?_
 rintro e w3 ⟨rfl,⟨S3,hd3,hS3⟩,hk3⟩
 have hh3:w3.heap[bp]? =_:=(hk3.block bp (by omega) (fun hf=>hf)).trans HS2.out.head
 obtain⟨hc03,_,_,_,_,hfz3⟩:=yC hh3
 have hf03:=hfz3 0
 have HH3:Hid (w3.heap[bp]? =some (qq (.pointer (some ⟨bd,0,none⟩)) (.pointer (some ⟨bs,0,none⟩)) (.slice a' V.vs.length cap') V.n0)):=hh3
 have HD3:Hid (zh w3 w2.heap.size S3 {D2 with reads:=0 }):=hd3
 have HS3:Hid (∀k,S3 k→w2.heap.size≤k):=hS3
 have HK3:Hid (za (fun _=>False) w2 w3):=hk3
 have hw3:=hk3.size
 clear hh3 hd3 hS3 hk3 hfz2 hfz3
 go_wp2_with fail
 have hh4:(w3.setCell ⟨bp,0,none⟩ (.pointer (some ⟨w2.heap.size,0,none⟩))).heap[bp]? =some (qq (.pointer (some ⟨w2.heap.size,0,none⟩)) (.pointer (some ⟨bs,0,none⟩)) (.slice a' V.vs.length cap') V.n0):=heap_setCell_same w3 bp 0 _ _ _ HH3.out
 have k34:=za.setCell (S:=fun k=>k=bp) w3 ⟨bp,0,none⟩ (.pointer (some ⟨w2.heap.size,0,none⟩)) rfl
 generalize w3.setCell ⟨bp,0,none⟩ (.pointer (some ⟨w2.heap.size,0,none⟩))=w4 at*
 have hd4:zh w4 w2.heap.size S3 {D2 with reads:=0}:=HD3.out.kept k34 (fun k hk e=>by have:=HS3.out k hk;have e':k=bp:=e;omega)
 have hw4:=k34.size
 have HK4:Hid (za (fun k=>k=bp) w2 w4):=(HK3.out.mono fE).trans k34 (fun k hk=>.inl hk)
 refine(fU AO hM hd4 (gr HS2.out.fore.live) (by exact HS2.out.fore.fuse) (by show (0:Int)≤0;omega) (by show (0:Int)≤_;omega) (by exact HS2.out.size) (by omega)).mono ?_
 rintro e w5 ⟨bs5,S5,D5,rfl,hF5,hbs5,hS5,hk5,hr5,hz5⟩
 have hS5':∀k,S5 k→w2.heap.size≤k:=fun k hk=>(hS5 k hk).elim (HS3.out k) (fun h=>by omega)
 have hh5:w5.heap[bp]? =_:=(hk5.block bp (by omega) (fun hc=>by have:=HS3.out bp hc;omega)).trans hh4
 have hw5:=hk5.size
 have k25:za (fun k=>k=bp∨w2.heap.size≤k) w2 w5:=(HK4.out.mono iL).trans hk5 (fun k hk=>.inl (.inr (HS3.out k hk)))
 have hwb:w.heap.size≤bp:=HWP.out
 have hsit5:xW M w w5 bp w2.heap.size bs5 (qq (.pointer (some ⟨w2.heap.size,0,none⟩)) (.pointer (some ⟨bs,0,none⟩)) (.slice a' V.vs.length cap') V.n0) S5 D5 V:=
  ⟨hF5,hh5,fun hk=>by have:=hS5' bp hk;omega,by omega,fun k hk=>by have:=hS5' k hk;omega,by omega,HS2.out.kept.trans k25 (fun k hk=>.inl (hk.elim (fun e=>by rw [e];exact hwb) (fun h=>by omega))),hz5⟩
 have HS5:Hid (xW M w w5 bp w2.heap.size bs5 (qq (.pointer (some ⟨w2.heap.size,0,none⟩)) (.pointer (some ⟨bs,0,none⟩)) (.slice a' V.vs.length cap') V.n0) S5 D5 V):=hsit5
 have HM5:Hid (xU w5 S5 bs5 94 4 (.slice a2 L.length c2) L.length (zY L)):=HM2.out.move k25 (fun k hk hc=>by have:=HB2.out k hk;omega) (fun k hk=>by have:=HB2.out k hk;exact⟨fun hc=>by have:=hS5' k hc;omega,by omega⟩)
 have HG5:Hid (qE w5 S5 bs5 a' cap' cs' G' V.vs):=HG2.out.move k25 (fun k hk hc=>by have:=HGB.out k hk;omega) (fun k hk=>by have:=HGB.out k hk;exact⟨fun hc=>by have:=hS5' k hc;omega,by omega⟩)
 have hr5':D5.reads≤2000:=by have e:({D2 with reads:=0}:Dk).reads=0:=rfl;omega
 have HWB:Hid (w.heap.size≤bp):=hwb
 clear hh4 hd4 hF5 hS5 hk5 hS5' hh5 k25 hsit5 k34 hwb
 go_wp2_with fail
 refine(v7 AL HS5.out (by omega) (by omega) 50 (by omega) (by omega)).mono ?_
 rintro e w6 ⟨S6,D6,a6,c6,L6,rfl,ha6,hs6,hr6,hL6,hm6,hnew6⟩
 obtain rfl:L6=L:=hL6.unique HL.out (List.Perm.refl _)
 have HS6:Hid (xW M w w6 bp w2.heap.size bs5 (qq (.pointer (some ⟨w2.heap.size,0,none⟩)) (.pointer (some ⟨bs,0,none⟩)) (.slice a' V.vs.length cap') V.n0) S6 D6 V):=hs6
 have HM6:Hid (xU w6 S6 bs5 94 4 (.slice a2 L6.length c2) L6.length (zY L6)):=HM5.out.aft ha6
 have HN6:Hid (xU w6 S6 bs5 94 4 (.slice a6 L6.length c6) L6.length (zY L6)):=hm6
 have HB6:Hid (∀k,(Value.slice a6 L6.length c6).ownBlock=some k→k≠bp∧k<w6.heap.size):=fun k hk=>⟨by have:=hnew6 k hk;omega,(hm6.row.lt k hk).2⟩
 have HG6:Hid (qE w6 S6 bs5 a' cap' cs' G' V.vs):=HG5.out.aft ha6
 have hw6:=ha6.kept.size
 clear ha6 hs6 hL6 hm6 hnew6
 go_wp2_with fail
 refine(bD AO hM _ _ _ HS6.out.head HS6.out.fore.disk HS6.out.fore.live HS6.out.pS HS6.out.size (by omega) Q ka kc ks (HKS.out.kept HS6.out.kept (fun k hk hc=>by have:=HQ.out k hk;omega)) (fun k hk hc=>by have:=HQ.out k hk;have:=HS6.out.low k hc;omega) hkl).mono ?_
 rintro e w7 ⟨rfl,bd7,bs7,S7,D7,hh7,hF7,hbs7,hS7,hk7,hr7,hz7⟩
 have hw7:=hk7.size
 have hsit7:xW M w w7 bp bd7 bs7 (qq (.pointer (some ⟨bd7,0,none⟩)) (.pointer (some ⟨bs7,0,none⟩)) (.slice a' V.vs.length cap') V.n0) S7 D7 V:=
  ⟨hF7,hh7,fun hk=>by have:=hS7 bp hk;omega,by omega,fun k hk=>by have:=hS7 k hk;have:=HS6.out.kept.size;omega,by have:=HS6.out.kept.size;omega,HS6.out.kept.trans hk7 (fun k hk=>.inl (hk.elim (HS6.out.low k) (fun e=>by rw [e];exact HWB.out))),hz7⟩
 have HS7:Hid (xW M w w7 bp bd7 bs7 (qq (.pointer (some ⟨bd7,0,none⟩)) (.pointer (some ⟨bs7,0,none⟩)) (.slice a' V.vs.length cap') V.n0) S7 D7 V):=hsit7
 have HM7:Hid (xU w7 S7 bs7 94 4 (.slice a2 L6.length c2) L6.length (zY L6)):=HM6.out.move hk7 (fun k hk hc=>hc.elim (HM6.out.far k hk).1 (HB2.out k hk).1) (fun k hk=>by have:=HB2.out k hk;exact⟨fun hc=>by have:=hS7 k hc;omega,by omega⟩)
 have HN7:Hid (xU w7 S7 bs7 94 4 (.slice a6 L6.length c6) L6.length (zY L6)):=HN6.out.move hk7 (fun k hk hc=>hc.elim (HN6.out.far k hk).1 (HB6.out k hk).1) (fun k hk=>by have:=HB6.out k hk;exact⟨fun hc=>by have:=hS7 k hc;omega,by omega⟩)
 have HG7:Hid (qE w7 S7 bs7 a' cap' cs' G' V.vs):=HG6.out.move hk7 (fun k hk hc=>hc.elim (hk.elim (fun h=>(HG6.out.row.far k h).1) (fun h=>(HG6.out.far k h).1)) (HGB.out k hk).1) (fun k hk=>by have:=HGB.out k hk;exact⟨fun hc=>by have:=hS7 k hc;omega,by omega⟩)
 obtain⟨_,hc17,_,_,hc67,_⟩:=yC hh7
 clear hh7 hF7 hS7 hk7 hsit7
 go_wp2_with fail
 refine(v7 AL HS7.out (by omega) (by omega) 3 (by omega) (by omega)).mono ?_
 rintro e w8 ⟨S8,D8,a8,c8,L8,rfl,ha8,hs8,hr8,hL8,hm8,_⟩
 obtain rfl:L8=L6:=hL8.unique HL.out (List.Perm.refl _)
 have HS8:Hid (xW M w w8 bp bd7 bs7 (qq (.pointer (some ⟨bd7,0,none⟩)) (.pointer (some ⟨bs7,0,none⟩)) (.slice a' V.vs.length cap') V.n0) S8 D8 V):=hs8
 have HR8:Hid (Row w8 a2 c2 L8):=(HM7.out.aft ha8).row
 have HT8:Hid (Row w8 a6 c6 L8):=(HN7.out.aft ha8).row
 have HU8:Hid (Row w8 a8 c8 L8):=hm8.row
 have HG8:Hid (qE w8 S8 bs7 a' cap' cs' G' V.vs):=HG7.out.aft ha8
 clear ha8 hs8 hL8 hm8
 go_wp2_with fail
 refine(gn w8 a2 a6 c2 c6 L8 (by omega) HR8.out HT8.out).mono ?_
 rintro e w9 ⟨rfl,n9,hw9⟩
 have k9:za (fun _=>False) w8 w9:=by rw [hw9];exact kD
 have HS9:Hid (xW M w w9 bp bd7 bs7 (qq (.pointer (some ⟨bd7,0,none⟩)) (.pointer (some ⟨bs7,0,none⟩)) (.slice a' V.vs.length cap') V.n0) S8 D8 V):=HS8.out.keep k9
 have HT9:Hid (Row w9 a6 c6 L8):=HT8.out.kept k9 nF
 have HU9:Hid (Row w9 a8 c8 L8):=HU8.out.kept k9 nF
 have HG9:Hid (qE w9 S8 bs7 a' cap' cs' G' V.vs):=HG8.out.keep k9
 clear hw9 k9
 go_wp2_with fail
 refine(gn w9 a6 a8 c6 c8 L8 (by omega) HT9.out HU9.out).mono ?_
 rintro e w10 ⟨rfl,n10,hw10⟩
 have k10:za (fun _=>False) w9 w10:=by rw [hw10];exact kD
 have HS10:Hid (xW M w w10 bp bd7 bs7 (qq (.pointer (some ⟨bd7,0,none⟩)) (.pointer (some ⟨bs7,0,none⟩)) (.slice a' V.vs.length cap') V.n0) S8 D8 V):=HS9.out.keep k10
 have HG10:Hid (qE w10 S8 bs7 a' cap' cs' G' V.vs):=HG9.out.keep k10
 clear hw10 k10
 go_wp2_with fail
 refine(ZA AA _ HS10.out HG10.out (by omega) (by omega) HMK.out).mono ?_
 rintro e w11 ⟨rfl,S11,D11,hs11⟩
 have HS11:Hid _:=hs11.end
 clear hs11
 go_wp2
 go_ret
 exact⟨rfl,HS11.out⟩
end keep
end Go.Proofs.YtcoengihaobddaaGreatDoor

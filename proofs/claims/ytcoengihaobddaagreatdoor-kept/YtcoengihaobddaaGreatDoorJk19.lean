/- Part 19 of 34 of a proof: Ins4, Ins5, Ins6, Ins7 -/
import Derived.Test.YtcoengihaobddaaGreatDoorJk18
set_option maxHeartbeats 8000000
set_option linter.unusedVariables false
set_option linter.unusedSimpArgs false
set_option maxRecDepth 8000
namespace Go.Proofs.YtcoengihaobddaaGreatDoor
namespace prog
open Go.ChangeShapes Go.WideShapes Go.ChangeAt Go.RowKit disk ref
open keys (ze zd zr zn)
theorem jD(w:World)(b:Nat)(t:TypeId)(a0 a1 a2 a3 a4 v0 v1 v2 v3 v4:Value)(h:w.heap[b]? =some (.cells #[a0,a1,a2,a3,a4] t (0,0))):
 (((((w.setCell ⟨b,0,none⟩ v0).setCell ⟨b,1,none⟩ v1).setCell ⟨b,2,none⟩ v2).setCell ⟨b,3,none⟩ v3).setCell ⟨b,4,none⟩ v4).heap[b]? =some (.cells #[v0,v1,v2,v3,v4] t (0,0))∧Kept (fun j=>j=b) w (((((w.setCell ⟨b,0,none⟩ v0).setCell ⟨b,1,none⟩ v1).setCell ⟨b,2,none⟩ v2).setCell ⟨b,3,none⟩ v3).setCell ⟨b,4,none⟩ v4):=by
 have h0:=heap_setCell_same w b 0 _ _ v0 h
 have h1:=heap_setCell_same _ b 1 _ _ v1 h0
 have h2:=heap_setCell_same _ b 2 _ _ v2 h1
 have h3:=heap_setCell_same _ b 3 _ _ v3 h2
 have h4:=heap_setCell_same _ b 4 _ _ v4 h3
 refine⟨h4,?_⟩
 have k:∀(x:World) (i:Nat) (v:Value),Kept (fun j=>j=b) x (x.setCell ⟨b,i,none⟩ v):=fun x i v=>Kept.setCell (S:=fun j=>j=b) x ⟨b,i,none⟩ v rfl
 exact((((k _ 0 v0).trans (k _ 1 v1) iL).trans (k _ 2 v2) iL).trans (k _ 3 v3) iL).trans (k _ 4 v4) iL
def Ck.split(C:Ck)(N:Nat)(m:List UInt8)(at_ k:Nat)(es:List En):Nat×Ck×List UInt8:=
 let t:=C.take N m
 (t.1,(t.2.1.put at_ (zl (za k (es.take (es.length/2))))).put t.1 (zl (za k (es.drop (es.length/2)))),t.2.2)
theorem JH(w:World)(bc bd:Nat)(S T:Nat→Prop)(D:Dk)(C:Ck)(h:Cw w bc bd S T D C)(m:List UInt8)(hm:qn (C.look D 2) m)(hr0:0≤D.reads)(hr1:D.reads≤4611686018427387904)(P:Nat→Prop)(hPT:∀j,P j→¬T j)(hPd:∀j,P j→j≠bd)(a:Option Addr)(cap:Nat)(k:Nat)(hk:k=4∨k=5)(es:List En)(hr:zH w P a es)(hes:∀e∈es,e.Ok)(hlen2:es.length/2<es.length)(hlen:es.length≤12)(hcap:es.length≤cap)(hcap2:cap≤9223372036854775807)(at_:Nat)(hfew:C.ws.length<800)(ta:Nat)(tC:Ck)(tm:List UInt8)(htk:C.take D.bs.length m=(ta,tC,tm))(em:En)(hem:es[es.length/2]=em):
 Calls Tryz.prog 178 #[.agg #[.int .u8 (k:Int),.slice a es.length cap],.pointer (some ⟨bc,0,none⟩),.int .i64 at_] w fun r w'=>r=.returned (.agg #[.string em.pl.key,.int .i64 em.pl.num,.bool false,.int .i64 0,.int .i64 (ta:Int)])∧(∃(n:Int) (T':Nat→Prop),0≤n∧n≤1∧Cw w' bc bd S T' {D with reads:=D.reads+n} ((tC.put at_ (zl (za k (es.take (es.length/2))))).put ta (zl (za k (es.drop (es.length/2)))))∧∀j,T' j→T j∨w.heap.size≤j)∧Kept (fun j=>j=bd∨T j) w w':=by
 have HH:Hid _:=h
 have HR:Hid _:=hr
 have HM:Hid _:=hm
 have HES:Hid (∀e∈es,e.Ok):=hes
 have HPT:Hid (∀j,P j→¬T j):=hPT
 have HPd:Hid (∀j,P j→j≠bd):=hPd
 clear h hr hm hes hPT hPd
 have HK0:Hid (Kept (fun _=>False) w ((w.alloc (.cells #[.int .u8 (k:Int),.slice a es.length cap] 209)).alloc (.cells #[.string ⟨#[]⟩,.int .i64 0,.bool false,.int .i64 0,.int .i64 0] 109))):=Kept.alloc2 _ _ _
 go_enter Tryz.func178,Tryz.ntmps178
 go_wp2_with fail
 have HBr:Hid (((w.alloc (.cells #[.int .u8 (k:Int),.slice a es.length cap] 209)).alloc (.cells #[.string ⟨#[]⟩,.int .i64 0,.bool false,.int .i64 0,.int .i64 0] 109)).heap[w.heap.size+1]? =some (.cells #[.string ⟨#[]⟩,.int .i64 0,.bool false,.int .i64 0,.int .i64 0] 109 (0,0))):=heap_alloc2_new w _ _
 have HBn:Hid (((w.alloc (.cells #[.int .u8 (k:Int),.slice a es.length cap] 209)).alloc (.cells #[.string ⟨#[]⟩,.int .i64 0,.bool false,.int .i64 0,.int .i64 0] 109)).heap[w.heap.size]? =some (.cells #[.int .u8 (k:Int),.slice a es.length cap] 209 (0,0))):=((Kept.alloc (fun _=>False) _ _).block w.heap.size (by simp) id).trans (heap_alloc_new w _)
 have hsW:((w.alloc (.cells #[.int .u8 (k:Int),.slice a es.length cap] 209)).alloc (.cells #[.string ⟨#[]⟩,.int .i64 0,.bool false,.int .i64 0,.int .i64 0] 109)).heap.size=w.heap.size+2:=by simp
 generalize ((w.alloc (.cells #[.int .u8 (k:Int),.slice a es.length cap] 209)).alloc (.cells #[.string ⟨#[]⟩,.int .i64 0,.bool false,.int .i64 0,.int .i64 0] 109))=W at*
 have hTl:=HH.out.chg.lt
 have hSl:=HH.out.disk.lt
 have hbd:bd<w.heap.size:=hSl bd HH.out.disk.bdS
 have HTL:Hid (∀j,T j→j<w.heap.size):=hTl
 have HSL:Hid (∀j,S j→j<w.heap.size):=hSl
 clear hTl hSl
 refine(fd W bc bd S T D C (HH.out.kept0 HK0.out) m HM.out hr0 hr1 (by omega)).mono ?_
 rintro r w1 ⟨rfl,⟨n1,T1,hn0,hn1,hc1,hT1⟩,hk1⟩
 have HC1:Hid _:=hc1
 have HT1:Hid _:=hT1
 have HK1:Hid (Kept (fun j=>j=bd∨T j) W w1):=hk1
 have hnT:∀j,w.heap.size≤j→¬(j=bd∨T j):=fun j hj hc=>hc.elim (fun h=>by omega) (fun h=>by have:=HTL.out j h;omega)
 have HNT:Hid (∀j,w.heap.size≤j→¬(j=bd∨T j)):=hnT
 have HBr1:Hid (w1.heap[w.heap.size+1]? =_):=(hk1.block _ (by omega) (hnT _ (by omega))).trans HBr.out
 have HBn1:Hid (w1.heap[w.heap.size]? =_):=(hk1.block _ (by omega) (hnT _ (by omega))).trans HBn.out
 have hc0:w1.cell? ⟨w.heap.size,0,none⟩=some (.int .u8 (k:Int)):=cR HBn1.out rfl
 have hc1':w1.cell? ⟨w.heap.size,1,none⟩=some (.slice a es.length cap):=cR HBn1.out rfl
 have HR1:Hid (zH w1 (fun j=>P j∧j<w.heap.size) a es):=(HR.out.below.kept HK0.out nF).kept hk1 (fun j hj hc=>hc.elim (HPd.out j hj.1) (HPT.out j hj.1))
 have HPT1:Hid (∀j,(P j∧j<w.heap.size)→¬T1 j):=fun j hj hc=>by
  rcases hT1 j hc with h1|h1
  ·exact HPT.out j hj.1 h1
  ·omega
 have hl1:tC.ws.length<900:=by have:=vD C D.bs.length m;rw [htk] at this;simp only at this;omega
 rw [htk] at HC1 ⊢
 dsimp only at HC1 ⊢
 have hsz1:=hk1.size
 clear hc1 hT1 hk1 hnT htk
 go_wp2_with fail
 refine(dC w1 bc bd S T1 _ tC HC1.out (fun j=>P j∧j<w.heap.size) HPT1.out a cap k hk es HR1.out HES.out (es.length/2) rfl hlen2 hlen hcap hcap2 at_ ta hl1).mono ?_
 rintro r w2 ⟨rfl,⟨T2,hc2,hT2⟩,hk2⟩
 rw [hem]
 have HC2:Hid _:=hc2
 have HT2:Hid _:=hT2
 have HK2:Hid (Kept T1 w1 w2):=hk2
 have HBr2:Hid (w2.heap[w.heap.size+1]? =_):=(hk2.block _ (by omega) (fun hc=>by rcases HT1.out _ hc with h1|h1;exact HNT.out _ (by omega) (.inr h1);omega)).trans HBr1.out
 have q0:w2.cell? ⟨w.heap.size+1,0,none⟩=some (.string ⟨#[]⟩):=cR HBr2.out rfl
 have q1:w2.cell? ⟨w.heap.size+1,1,none⟩=some (.int .i64 0):=cR HBr2.out rfl
 have q2:w2.cell? ⟨w.heap.size+1,2,none⟩=some (.bool false):=cR HBr2.out rfl
 have q3:w2.cell? ⟨w.heap.size+1,3,none⟩=some (.int .i64 0):=cR HBr2.out rfl
 have q4:w2.cell? ⟨w.heap.size+1,4,none⟩=some (.int .i64 0):=cR HBr2.out rfl
 have f0:=frozen_of_row w2 (w.heap.size+1) 0 _ _ HBr2.out
 have f1:=frozen_of_row w2 (w.heap.size+1) 1 _ _ HBr2.out
 have f2:=frozen_of_row w2 (w.heap.size+1) 2 _ _ HBr2.out
 have f3:=frozen_of_row w2 (w.heap.size+1) 3 _ _ HBr2.out
 have f4:=frozen_of_row w2 (w.heap.size+1) 4 _ _ HBr2.out
 clear hc2 hT2 hk2
 go_wp2
 obtain⟨hh,kS⟩:=jD w2 (w.heap.size+1) 109 _ _ _ _ _ (.string em.pl.key) (.int .i64 em.pl.num) (.bool false) (.int .i64 0) (.int .i64 (ta:Int)) HBr2.out
 have hT2':∀j,T2 j→T j∨W.heap.size≤j:=fun j hj=>by
  rcases HT2.out j hj with h1|h1
  ·exact HT1.out j h1
  ·right;omega
 refine bodyPost_ret (v:=.agg #[.string em.pl.key,.int .i64 em.pl.num,.bool false,.int .i64 0,.int .i64 (ta:Int)]) (results_cell_row Tryz.results178 _ _ (w.heap.size+1) 109 _ (0,0) _ rfl hh Tryz.underlying109 rfl (by kernel_rfl)) rfl ⟨rfl,⟨n1,T2,hn0,hn1,HC2.out.kept kS (fun j hj e0=>by have:=HSL.out j hj;omega) (fun j hj e0=>?_),fun j hj=>(hT2' j hj).imp id (fun h=>by omega)⟩,?_⟩
 ·subst e0
  rcases hT2' _ hj with h1|h1
  ·exact HNT.out _ (by omega) (.inr h1)
  ·omega
 ·have k1:Kept (fun j=>j=bd∨T j) w w1:=(HK0.out.mono fE).trans HK1.out iL
  have k2:Kept (fun j=>j=bd∨T j) w w2:=k1.trans HK2.out (fun j hj=>by
   rcases HT1.out j hj with h1|h1
   ·exact .inl (.inr h1)
   ·exact .inr (by omega))
  exact k2.trans kS (fun j hj=>.inr (by omega))
theorem Xp(w:World)(bc bd:Nat)(S T:Nat→Prop)(D:Dk)(C:Ck)(h:Cw w bc bd S T D C)(m:List UInt8)(hm:qn (C.look D 2) m)(hr0:0≤D.reads)(hr1:D.reads≤4611686018427387904)(P:Nat→Prop)(hPT:∀j,P j→¬T j)(hPd:∀j,P j→j≠bd)(a:Option Addr)(cap:Nat)(k:Nat)(hk:k=4∨k=5)(es:List En)(hr:zH w P a es)(hes:∀e∈es,e.Ok)(hlen2:es.length/2<es.length)(hlen:es.length≤12)(hcap:es.length≤cap)(hcap2:cap≤9223372036854775807)(at_:Nat)(hfew:C.ws.length<800):
 Calls Tryz.prog 178 #[.agg #[.int .u8 (k:Int),.slice a es.length cap],.pointer (some ⟨bc,0,none⟩),.int .i64 at_] w fun r w'=>r=.returned (.agg #[.string es[es.length/2].pl.key,.int .i64 es[es.length/2].pl.num,.bool false,.int .i64 0,.int .i64 ((C.split D.bs.length m at_ k es).1:Nat)])∧(∃(n:Int) (T':Nat→Prop),0≤n∧n≤1∧Cw w' bc bd S T' {D with reads:=D.reads+n} (C.split D.bs.length m at_ k es).2.1∧∀j,T' j→T j∨w.heap.size≤j)∧Kept (fun j=>j=bd∨T j) w w':=
 JH w bc bd S T D C h m hm hr0 hr1 P hPT hPd a cap k hk es hr hes hlen2 hlen hcap hcap2 at_ hfew _ _ _ rfl _ rfl
def Ck.plant(C:Ck)(N:Nat)(m:List UInt8)(k:Nat)(es:List En):Nat×Ck×List UInt8:=
 let t:=C.take N m
 (t.1,t.2.1.put t.1 (zl (za k es)),t.2.2)
theorem Zi(w:World)(bc bd:Nat)(S T:Nat→Prop)(D:Dk)(C:Ck)(h:Cw w bc bd S T D C)(m:List UInt8)(hm:qn (C.look D 2) m)(hr0:0≤D.reads)(hr1:D.reads≤4611686018427387904)(P:Nat→Prop)(hPT:∀j,P j→¬T j)(hPd:∀j,P j→j≠bd)(a:Option Addr)(cap:Nat)(k:Nat)(hk:k=4∨k=5)(es:List En)(n:Nat)(hn:es.length=n)(hr:zH w P a es)(hes:∀e∈es,e.Ok)(hlen:es.length≤6)(hfew:C.ws.length<800)(ta:Nat)(tC:Ck)(tm:List UInt8)(htk:C.take D.bs.length m=(ta,tC,tm)):
 Calls Tryz.prog 136 #[.pointer (some ⟨bc,0,none⟩),.agg #[.int .u8 (k:Int),.slice a n cap]] w fun r w'=>r=.returned (.int .i64 (ta:Int))∧(∃(n:Int) (T':Nat→Prop),0≤n∧n≤1∧Cw w' bc bd S T' {D with reads:=D.reads+n} (tC.put ta (zl (za k es)))∧∀j,T' j→T j∨w.heap.size≤j)∧Kept (fun j=>j=bd∨T j) w w':=by
 have HH:Hid _:=h
 have HR:Hid _:=hr
 have HM:Hid _:=hm
 have HES:Hid (∀e∈es,e.Ok):=hes
 have HPT:Hid (∀j,P j→¬T j):=hPT
 have HPd:Hid (∀j,P j→j≠bd):=hPd
 clear h hr hm hes hPT hPd
 have HK0:Hid (Kept (fun _=>False) w (w.alloc (.cells #[.int .u8 (k:Int),.slice a n cap] 209))):=Kept.alloc _ _ _
 go_enter Tryz.func136,Tryz.ntmps136
 go_wp2_with fail
 have HBn:Hid ((w.alloc (.cells #[.int .u8 (k:Int),.slice a n cap] 209)).heap[w.heap.size]? =some (.cells #[.int .u8 (k:Int),.slice a n cap] 209 (0,0))):=heap_alloc_new w _
 have hsW:(w.alloc (.cells #[.int .u8 (k:Int),.slice a n cap] 209)).heap.size=w.heap.size+1:=by simp
 generalize (w.alloc (.cells #[.int .u8 (k:Int),.slice a n cap] 209))=W at*
 have hTl:=HH.out.chg.lt
 have hSl:=HH.out.disk.lt
 have hbd:bd<w.heap.size:=hSl bd HH.out.disk.bdS
 have HTL:Hid (∀j,T j→j<w.heap.size):=hTl
 clear hTl hSl
 refine(fd W bc bd S T D C (HH.out.kept0 HK0.out) m HM.out hr0 hr1 (by omega)).mono ?_
 rintro r w1 ⟨rfl,⟨n1,T1,hn0,hn1,hc1,hT1⟩,hk1⟩
 have HC1:Hid _:=hc1
 have HT1:Hid _:=hT1
 have HK1:Hid (Kept (fun j=>j=bd∨T j) W w1):=hk1
 have hnT:∀j,w.heap.size≤j→¬(j=bd∨T j):=fun j hj hc=>hc.elim (fun h=>by omega) (fun h=>by have:=HTL.out j h;omega)
 have HBn1:Hid (w1.heap[w.heap.size]? =_):=(hk1.block _ (by omega) (hnT _ (by omega))).trans HBn.out
 have hc0:w1.cell? ⟨w.heap.size,0,none⟩=some (.int .u8 (k:Int)):=cR HBn1.out rfl
 have hc1':w1.cell? ⟨w.heap.size,1,none⟩=some (.slice a n cap):=cR HBn1.out rfl
 have HR1:Hid (zH w1 (fun j=>P j∧j<w.heap.size) a es):=(HR.out.below.kept HK0.out nF).kept hk1 (fun j hj hc=>hc.elim (HPd.out j hj.1) (HPT.out j hj.1))
 have hl1:tC.ws.length<900:=by have:=vD C D.bs.length m;rw [htk] at this;simp only at this;omega
 rw [htk] at HC1 ⊢
 dsimp only at HC1 ⊢
 have hsz1:=hk1.size
 clear hc1 hT1 hk1 hnT htk
 go_wp2_with fail
 refine(jQ w1 bc bd S T1 _ tC HC1.out _ a cap k hk es HR1.out HES.out hlen ta (by omega) n hn).mono ?_
 rintro r w2 ⟨rfl,⟨T2,hc2,hT2⟩,hk2⟩
 have HC2:Hid _:=hc2
 have HT2:Hid _:=hT2
 have HK2:Hid (Kept T1 w1 w2):=hk2
 clear hc2 hT2 hk2
 go_wp2
 go_ret
 refine⟨rfl,⟨n1,T2,hn0,hn1,HC2.out,fun j hj=>?_⟩,?_⟩
 ·rcases HT2.out j hj with h1|h1
  ·rcases HT1.out j h1 with h2|h2
   ·exact .inl h2
   ·exact .inr (by omega)
  ·exact .inr (by omega)
 ·have k1:Kept (fun j=>j=bd∨T j) w w1:=(HK0.out.mono fE).trans HK1.out iL
  exact k1.trans HK2.out (fun j hj=>by
   rcases HT1.out j hj with h1|h1
   ·exact .inl (.inr h1)
   ·exact .inr (by omega))
def vX:En:=⟨⟨⟨#[]⟩,0⟩,false,0,0⟩
def qo:List Value:=[.string ⟨#[]⟩,.int .i64 0,.bool false,.int .i64 0,.int .i64 0]
def Ck.more(C:Ck)(N:Nat)(m:List UInt8)(at_ k:Nat)(es:List En):Bool×List Value×Ck×List UInt8:=
 if es.length≤6 then (false,qo,C.put at_ (zl (za k es)),m)
 else
  let s:=C.split N m at_ k es
  (true,qp ⟨(es.getD (es.length/2) vX).pl,false,0,s.1⟩,s.2.1,s.2.2)
theorem YE(w:World)(bc bd:Nat)(S T:Nat→Prop)(D:Dk)(C:Ck)(h:Cw w bc bd S T D C)(m:List UInt8)(hm:qn (C.look D 2) m)(hr0:0≤D.reads)(hr1:D.reads≤4611686018427387904)(P:Nat→Prop)(hPT:∀j,P j→¬T j)(hPd:∀j,P j→j≠bd)(a:Option Addr)(cap:Nat)(k:Nat)(hk:k=4∨k=5)(es:List En)(hr:zH w P a es)(hes:∀e∈es,e.Ok)(n:Nat)(hn:es.length=n)(hlen2:n/2<n)(hlen:n≤12)(hcap:n≤cap)(hcap2:cap≤9223372036854775807)(at_:Nat)(hfew:C.ws.length<800):
 Calls Tryz.prog 178 #[.agg #[.int .u8 (k:Int),.slice a n cap],.pointer (some ⟨bc,0,none⟩),.int .i64 at_] w fun r w'=>r=.returned (.agg (qp ⟨(es.getD (es.length/2) vX).pl,false,0,(C.split D.bs.length m at_ k es).1⟩).toArray)∧(∃(n:Int) (T':Nat→Prop),0≤n∧n≤1∧Cw w' bc bd S T' {D with reads:=D.reads+n} (C.split D.bs.length m at_ k es).2.1∧∀j,T' j→T j∨w.heap.size≤j)∧Kept (fun j=>j=bd∨T j) w w':=by
 subst hn
 have:=Xp w bc bd S T D C h m hm hr0 hr1 P hPT hPd a cap k hk es hr hes hlen2 hlen hcap hcap2 at_ hfew
 rw [List.getD_eq_getElem?_getD,List.getElem?_eq_getElem hlen2,Option.getD_some]
 exact this
theorem yn{P:Program}{fn:Func}{p u:Tmp}{ty:TypeId}(h:fn.results=#[.cell p ty,.tmp u])(tmps:Array Value)(w:World)(g:Nat)(t:TypeId)(cs:Array Value)(fr:Nat×Nat)(d:TypeDesc)
 (hp:tmps.getD p undef=.pointer (some ⟨g,0,none⟩)) (hg:w.heap[g]? =some (.cells cs t fr))
 (hu:P.underlying ty=some d) (hd:(match d with|.struct _|.array _ _=>true|_=>false)=true) (hi:(P.info? ty).map (·.size)=some cs.size):
 (results fn tmps).run P w=.ok (.tuple #[.agg cs,tmps.getD u undef]) w:=by
 have hp':tmps[p]?.getD undef=.pointer (some ⟨g,0,none⟩):=by simpa using hp
 simp [results,h,hp',asAddr,run_loadVar_row w g t ty cs fr d hg hu hd hi]
theorem Zj(w:World)(bc bd:Nat)(S T:Nat→Prop)(D:Dk)(C:Ck)(h:Cw w bc bd S T D C)(m:List UInt8)(hm:qn (C.look D 2) m)(hr0:0≤D.reads)(hr1:D.reads≤4611686018427380000)(at_:Nat)(hat:at_<65536)(es:List En)(hes:∀e∈es,e.Ok)(hlen:es.length≤6)(hs:yg es)(hl:C.look D at_=zl (za 5 es))(e:En)(he:e.Ok)(hfew:C.ws.length<700)(es':List En)(hes':es.take (zm es e.pl)++e::es.drop (zm es e.pl)=es')(f:Bool)(v:List Value)(C':Ck)(m':List UInt8)(hmo:C.more D.bs.length m at_ 5 es'=(f,v,C',m')):
 Calls Tryz.prog 137 #[.pointer (some ⟨bc,0,none⟩),.int .i64 at_,.agg (qp e).toArray] w fun r w'=>r=.returned (.tuple #[.agg v.toArray,.bool f])∧(∃(n:Int) (T':Nat→Prop),0≤n∧n≤2∧Cw w' bc bd S T' {D with reads:=D.reads+n} C'∧∀j,T' j→T j∨w.heap.size≤j)∧Kept (fun j=>j=bd∨T j) w w':=by
 have HH:Hid _:=h
 have HM:Hid _:=hm
 have HES:Hid (∀e∈es,e.Ok):=hes
 have HS:Hid (yg es):=hs
 have HL:Hid _:=hl
 have HE:Hid e.Ok:=he
 have HE':Hid (es.take (zm es e.pl)++e::es.drop (zm es e.pl)=es'):=hes'
 have HMO:Hid (C.more D.bs.length m at_ 5 es'=(f,v,C',m')):=hmo
 have hlen':es'.length=es.length+1:=by rw [←hes'];simp only [List.length_append,List.length_take,List.length_cons,List.length_drop];have:=xh es e.pl;omega
 have HES':Hid (∀x∈es',x.Ok):=fun x hx=>by
  rw [←hes'] at hx
  rcases List.mem_append.1 hx with hx|hx
  ·exact hes x (List.mem_of_mem_take hx)
  ·rcases List.mem_cons.1 hx with rfl|hx
   ·exact he
   ·exact hes x (List.mem_of_mem_drop hx)
 clear hes' hmo
 clear h hm hes hs hl he
 have hbd:bd<w.heap.size:=HH.out.disk.lt bd HH.out.disk.bdS
 have HTL:Hid (∀j,T j→j<w.heap.size):=HH.out.chg.lt
 have HSL:Hid (∀j,S j→j<w.heap.size):=HH.out.disk.lt
 have HK0:Hid (Kept (fun _=>False) w ((w.alloc (.cells (qp e).toArray 109)).alloc (.cells qo.toArray 109))):=Kept.alloc2 _ _ _
 have HBr:Hid (((w.alloc (.cells (qp e).toArray 109)).alloc (.cells qo.toArray 109)).heap[w.heap.size+1]? =some (.cells qo.toArray 109 (0,0))):=heap_alloc2_new w _ _
 have HBe:Hid (((w.alloc (.cells (qp e).toArray 109)).alloc (.cells qo.toArray 109)).heap[w.heap.size]? =some (.cells (qp e).toArray 109 (0,0))):=((Kept.alloc (fun _=>False) _ _).block w.heap.size (by simp) id).trans (heap_alloc_new w _)
 have hsW:((w.alloc (.cells (qp e).toArray 109)).alloc (.cells qo.toArray 109)).heap.size=w.heap.size+2:=by simp
 unfold qo at HK0 HBr HBe hsW
 unfold qp at HK0 HBr HBe hsW ⊢
 go_enter Tryz.func137,Tryz.ntmps137
 go_wp2_with fail
 change Hid (Kept _ w ((w.alloc (.cells #[.string e.pl.key,.int .i64 e.pl.num,.bool e.mark,.int .i64 (e.size:Int),.int .i64 (e.at_:Int)] 109)).alloc (.cells #[.string ⟨#[]⟩,.int .i64 0,.bool false,.int .i64 0,.int .i64 0] 109))) at HK0
 generalize ((w.alloc (.cells #[.string e.pl.key,.int .i64 e.pl.num,.bool e.mark,.int .i64 (e.size:Int),.int .i64 (e.at_:Int)] 109)).alloc (.cells #[.string ⟨#[]⟩,.int .i64 0,.bool false,.int .i64 0,.int .i64 0] 109))=W at*
 refine(yf W bc bd S T D C (HH.out.kept0 HK0.out) hr0 (by omega) at_ hat 5 es (.inr rfl) HES.out (fun h=>absurd h (by decide)) hlen HL.out).mono ?_
 rintro r w1 ⟨a,cap,rfl,⟨n1,hn0,hn1,hc1⟩,hk1,hrow1,hown1,hfr1⟩
 have HC1:Hid _:=hc1
 have HK1:Hid (Kept (fun j=>j=bd) W w1):=hk1
 have HO1:Hid (w1.ownsRow 0 109 5 (.slice a es.length cap) es.length (zf es)):=hown1
 have HF1:Hid _:=hfr1
 have HRW1:Hid _:=hrow1
 have hsz1:=hk1.size
 have HBe1:Hid (w1.heap[w.heap.size]? =_):=(hk1.block _ (by omega) (by omega)).trans HBe.out
 have HBr1:Hid (w1.heap[w.heap.size+1]? =_):=(hk1.block _ (by omega) (by omega)).trans HBr.out
 clear hc1 hk1 hown1 hfr1 hrow1
 have x0:w1.cell? ⟨w.heap.size,0,none⟩=some (.string e.pl.key):=cR HBe1.out rfl
 have x1:w1.cell? ⟨w.heap.size,1,none⟩=some (.int .i64 e.pl.num):=cR HBe1.out rfl
 have hlw1:w.heap.size<w1.heap.size:=by omega
 have hlo1:∀j,(Value.slice a es.length cap).ownBlock=some j→W.heap.size≤j∧j<w1.heap.size:=fun j hj=>⟨HF1.out j hj,(HO1.out.lt j hj).2⟩
 have HLO:Hid (∀j,(Value.slice a es.length cap).ownBlock=some j→W.heap.size≤j∧j<w1.heap.size):=hlo1
 clear hlo1
 go_wp2_with fail
 have HKN:Hid (Kept (fun _=>False) w1 (w1.alloc (.cells #[.int .u8 5,.slice a es.length cap] 209))):=Kept.alloc _ _ _
 have HBN:Hid ((w1.alloc (.cells #[.int .u8 5,.slice a es.length cap] 209)).heap[w1.heap.size]? =some (.cells #[.int .u8 5,.slice a es.length cap] 209 (0,0))):=heap_alloc_new w1 _
 have hsN:(w1.alloc (.cells #[.int .u8 5,.slice a es.length cap] 209)).heap.size=w1.heap.size+1:=by simp
 generalize (w1.alloc (.cells #[.int .u8 5,.slice a es.length cap] 209))=WN at*
 refine(xC WN _ a cap es (HRW1.out.kept HKN.out nF) HS.out 5 e.pl).mono ?_
 rintro r w2 ⟨rfl,hk2⟩
 have HK2:Hid (Kept (fun _=>False) w1 w2):=HKN.out.trans hk2 iL
 have hsz2:=hk2.size
 have HBN2:Hid (w2.heap[w1.heap.size]? =_):=(hk2.block _ (by omega) id).trans HBN.out
 clear hk2
 have HBe2:Hid (w2.heap[w.heap.size]? =_):=(HK2.out.block _ (by omega) id).trans HBe1.out
 have HBr2:Hid (w2.heap[w.heap.size+1]? =_):=(HK2.out.block _ (by omega) id).trans HBr1.out
 have y0:w2.cell? ⟨w.heap.size,0,none⟩=some (.string e.pl.key):=cR HBe2.out rfl
 have y1:w2.cell? ⟨w.heap.size,1,none⟩=some (.int .i64 e.pl.num):=cR HBe2.out rfl
 have y2:w2.cell? ⟨w.heap.size,2,none⟩=some (.bool e.mark):=cR HBe2.out rfl
 have y3:w2.cell? ⟨w.heap.size,3,none⟩=some (.int .i64 (e.size:Int)):=cR HBe2.out rfl
 have y4:w2.cell? ⟨w.heap.size,4,none⟩=some (.int .i64 (e.at_:Int)):=cR HBe2.out rfl
 have z0:w2.cell? ⟨w1.heap.size,0,none⟩=some (.int .u8 5):=cR HBN2.out rfl
 have z1:w2.cell? ⟨w1.heap.size,1,none⟩=some (.slice a es.length cap):=cR HBN2.out rfl
 have hfi:=xh es e.pl
 generalize zm es e.pl=i at*
 go_wp2_with fail
 have HKV:Hid (Kept (fun _=>False) w2 (w2.alloc (.cells #[.string e.pl.key,.int .i64 e.pl.num,.bool e.mark,.int .i64 (e.size:Int),.int .i64 (e.at_:Int)] 109))):=Kept.alloc _ _ _
 have HBV:Hid ((w2.alloc (.cells #[.string e.pl.key,.int .i64 e.pl.num,.bool e.mark,.int .i64 (e.size:Int),.int .i64 (e.at_:Int)] 109)).heap[w2.heap.size]? =some (.cells (qp e).toArray 109 (0,0))):=heap_alloc_new w2 _
 have hsV:(w2.alloc (.cells #[.string e.pl.key,.int .i64 e.pl.num,.bool e.mark,.int .i64 (e.size:Int),.int .i64 (e.at_:Int)] 109)).heap.size=w2.heap.size+1:=by simp
 generalize (w2.alloc (.cells #[.string e.pl.key,.int .i64 e.pl.num,.bool e.mark,.int .i64 (e.size:Int),.int .i64 (e.at_:Int)] 109))=WV at*
 have HKX:Hid (Kept (fun _=>False) w1 WV):=HK2.out.trans HKV.out iL
 refine(vB WV a es.length cap i es rfl (HKX.out.owns HO1.out nF) w2.heap.size (fun hc=>by have:=(HLO.out _ hc).2;omega) e HBV.out (by omega) hfi).mono ?_
 rintro r w4 ⟨g,cp,rfl,hir⟩
 rw [HE'.out] at hir
 have HIR:Hid _:=hir
 have hsz4:=hir.kept.size
 have hna:∀j,w1.heap.size≤j∨j<W.heap.size→¬(Value.slice a es.length cap).ownBlock=some j:=fun j hj hc=>by have:=HLO.out j hc;omega
 have HBN4:Hid (w4.heap[w1.heap.size]? =_):=(hir.kept.block _ (by omega) (hna _ (.inl (Nat.le_refl _)))).trans ((HKV.out.block _ (by omega) id).trans HBN2.out)
 have HBr4:Hid (w4.heap[w.heap.size+1]? =_):=(hir.kept.block _ (by omega) (hna _ (.inr (by omega)))).trans ((HKV.out.block _ (by omega) id).trans HBr2.out)
 have hgb:W.heap.size≤g∧g≠w1.heap.size:=by
  rcases hir.at_ with h1|h1
  ·have:=HLO.out g h1;omega
  ·omega
 have HK4:Hid (Kept (fun j=>(Value.slice a es.length cap).ownBlock=some j) w1 w4):=(HKX.out.mono fE).trans hir.kept iL
 have p0:w4.cell? ⟨w1.heap.size,0,none⟩=some (.int .u8 5):=cR HBN4.out rfl
 have p1:w4.cell? ⟨w1.heap.size,1,none⟩=some (.slice a es.length cap):=cR HBN4.out rfl
 have pf1:=frozen_of_row w4 w1.heap.size 1 _ _ HBN4.out
 clear hir hna
 go_wp2_with fail
 have HB5:Hid ((w4.setCell ⟨w1.heap.size,1,none⟩ (.slice (some ⟨g,0,none⟩) (es.length+1) cp)).heap[w1.heap.size]? =some (.cells #[.int .u8 5,.slice (some ⟨g,0,none⟩) (es.length+1) cp] 209 (0,0))):=heap_setCell_same w4 w1.heap.size 1 _ _ _ HBN4.out
 have HKS:Hid (Kept (fun j=>j=w1.heap.size) w4 (w4.setCell ⟨w1.heap.size,1,none⟩ (.slice (some ⟨g,0,none⟩) (es.length+1) cp))):=Kept.setCell (S:=fun j=>j=w1.heap.size) w4 ⟨w1.heap.size,1,none⟩ _ rfl
 have hs5:(w4.setCell ⟨w1.heap.size,1,none⟩ (.slice (some ⟨g,0,none⟩) (es.length+1) cp)).heap.size=w4.heap.size:=by simp
 generalize (w4.setCell ⟨w1.heap.size,1,none⟩ (.slice (some ⟨g,0,none⟩) (es.length+1) cp))=W5 at*
 have HO5:Hid (W5.ownsRow 0 109 5 (.slice (some ⟨g,0,none⟩) es'.length cp) es'.length (zf es')):=HKS.out.owns HIR.out.own (fun j hj e0=>by simp [Value.ownBlock] at hj;omega)
 have HR5:Hid (zH W5 (fun j=>j=g) (some ⟨g,0,none⟩) es'):=zH.of_own HO5.out (fun j hj=>by simp [Value.ownBlock] at hj;exact hj.symm) (by omega)
 have hcp:es.length+1≤cp∧cp≤9223372036854775807:=by
  rcases HO5.out.2 with⟨h1,h2⟩|⟨g',cap',cur,hv,_,hg,h1,h2,_⟩
  ·cases h1
  ·cases hv;unfold maxLen at h2;omega
 have HK5:Hid (Kept (fun j=>(Value.slice a es.length cap).ownBlock=some j∨j=w1.heap.size) w1 W5):=(HK4.out.mono iL).trans HKS.out (fun _ h=>.inl (.inr h))
 have HCW5:Hid (Cw W5 bc bd S T {D with reads:=D.reads+n1} C):=HC1.out.kept HK5.out (fun j hj hc=>by
  have:=HSL.out j hj
  rcases hc with hc|hc
  ·have:=HLO.out j hc;omega
  ·omega) (fun j hj hc=>by
  have:=HTL.out j hj
  rcases hc with hc|hc
  ·have:=HLO.out j hc;omega
  ·omega)
 have HBr5:Hid (W5.heap[w.heap.size+1]? =_):=(HKS.out.block _ (by omega) (by omega)).trans HBr4.out
 have HKW5:Hid (Kept (fun j=>j=bd∨T j) w W5):=((HK0.out.mono fE).trans HK1.out (fun _ h=>.inl (.inl h))).trans HK5.out (fun j hj=>by
  rcases hj with hc|hc
  ·have:=HLO.out j hc;exact .inr (by omega)
  ·exact .inr (by omega))
 have p50:W5.cell? ⟨w1.heap.size,0,none⟩=some (.int .u8 5):=cR HB5.out rfl
 have p51:W5.cell? ⟨w1.heap.size,1,none⟩=some (.slice (some ⟨g,0,none⟩) (es.length+1) cp):=cR HB5.out rfl
 have hlN5:w1.heap.size<W5.heap.size:=by omega
 clear p0 p1 pf1
 go_region_held3 (fun w'=>w'.cell? ⟨w1.heap.size,0,none⟩=some (.int .u8 5)∧w'.cell? ⟨w1.heap.size,1,none⟩=some (.slice (some ⟨g,0,none⟩) (es.length+1) cp)) (go_keep) ((go_at_call 129;refine(jh _ 5 (by decide)).mono ?_;rintro r w6 ⟨rfl,hw6⟩;rw [hw6];clear hw6 w6))
 have hrm:room 5=6:=rfl
 have HKD:Hid (Kept (fun _=>False) W5 W5.drew):=Kept.drew _ W5
 have hs6:W5.drew.heap.size=W5.heap.size:=rfl
 generalize W5.drew=W6 at*
 have HR6:Hid (zH W6 (fun j=>j=g) (some ⟨g,0,none⟩) es'):=HR5.out.kept HKD.out nF
 have HCW6:Hid (Cw W6 bc bd S T {D with reads:=D.reads+n1} C):=HCW5.out.kept0 HKD.out
 have HBr6:Hid (W6.heap[w.heap.size+1]? =_):=(HKD.out.block _ (by omega) id).trans HBr5.out
 have HB6:Hid (W6.heap[w1.heap.size]? =_):=(HKD.out.block _ (by omega) id).trans HB5.out
 have HKW6:Hid (Kept (fun j=>j=bd∨T j) w W6):=HKW5.out.trans HKD.out fE
 have p60:W6.cell? ⟨w1.heap.size,0,none⟩=some (.int .u8 5):=cR HB6.out rfl
 have p61:W6.cell? ⟨w1.heap.size,1,none⟩=some (.slice (some ⟨g,0,none⟩) (es.length+1) cp):=cR HB6.out rfl
 have HGT:Hid (∀j,j=g→¬T j):=fun j hj hT=>by have:=HTL.out j hT;omega
 have HGd:Hid (∀j,j=g→j≠bd):=fun j hj e0=>by omega
 clear p50 p51
 by_cases hle:es.length+1≤6
 ·have hm1:(false,qo,C.put at_ (zl (za 5 es')),m)=(f,v,C',m'):=by
   have:=HMO.out
   unfold Ck.more at this
   rw [if_pos (by omega)] at this
   exact this
  clear HMO
  cases hm1
  have hleI:(es.length:Int)+1≤((room 5:Nat):Int):=by rw [hrm];omega
  go_wp2_with fail
  refine(jQ W6 bc bd S T _ C HCW6.out (fun j=>j=g) (some ⟨g,0,none⟩) cp 5 (.inr rfl) es' HR6.out HES'.out (by omega) at_ (by omega) (es.length+1) hlen').mono ?_
  rintro r w7 ⟨rfl,⟨T7,hc7,hT7⟩,hk7⟩
  have HC7:Hid _:=hc7
  have HT7:Hid _:=hT7
  have HK7:Hid (Kept T W6 w7):=hk7
  have HBr7:Hid (w7.heap[w.heap.size+1]? =_):=(hk7.block _ (by omega) (fun hc=>by have:=HTL.out _ hc;omega)).trans HBr6.out
  have q0:w7.cell? ⟨w.heap.size+1,0,none⟩=some (.string ⟨#[]⟩):=cR HBr7.out rfl
  have q1:w7.cell? ⟨w.heap.size+1,1,none⟩=some (.int .i64 0):=cR HBr7.out rfl
  have q2:w7.cell? ⟨w.heap.size+1,2,none⟩=some (.bool false):=cR HBr7.out rfl
  have q3:w7.cell? ⟨w.heap.size+1,3,none⟩=some (.int .i64 0):=cR HBr7.out rfl
  have q4:w7.cell? ⟨w.heap.size+1,4,none⟩=some (.int .i64 0):=cR HBr7.out rfl
  have f0:=frozen_of_row w7 (w.heap.size+1) 0 _ _ HBr7.out
  have f1:=frozen_of_row w7 (w.heap.size+1) 1 _ _ HBr7.out
  have f2:=frozen_of_row w7 (w.heap.size+1) 2 _ _ HBr7.out
  have f3:=frozen_of_row w7 (w.heap.size+1) 3 _ _ HBr7.out
  have f4:=frozen_of_row w7 (w.heap.size+1) 4 _ _ HBr7.out
  clear hc7 hT7 hk7
  go_wp2
  obtain⟨hh,kS⟩:=jD w7 (w.heap.size+1) 109 _ _ _ _ _ (.string ⟨#[]⟩) (.int .i64 0) (.bool false) (.int .i64 0) (.int .i64 0) HBr7.out
  refine bodyPost_ret (v:=.tuple #[.agg qo.toArray,.bool false]) (yn Tryz.results137 _ _ (w.heap.size+1) 109 _ (0,0) _ rfl hh Tryz.underlying109 rfl (by kernel_rfl)) rfl ⟨rfl,⟨n1,T7,hn0,by omega,HC7.out.kept kS (fun j hj e0=>by have:=HSL.out j hj;omega) (fun j hj e0=>?_),fun j hj=>(HT7.out j hj).imp id (fun h=>by have:=HKW6.out.size;omega)⟩,?_⟩
  ·rcases HT7.out j hj with h1|h1
   ·have:=HTL.out j h1;omega
   ·omega
  ·exact(HKW6.out.trans HK7.out (fun j hj=>.inl (.inr hj))).trans kS (fun j hj=>.inr (by omega))
 ·have hm1:(true,qp ⟨(es'.getD (es'.length/2) vX).pl,false,0,(C.split D.bs.length m at_ 5 es').1⟩,(C.split D.bs.length m at_ 5 es').2.1,(C.split D.bs.length m at_ 5 es').2.2)=(f,v,C',m'):=by
   have:=HMO.out
   unfold Ck.more at this
   rw [if_neg (by omega)] at this
   exact this
  clear HMO
  cases hm1
  have hleI:((room 5:Nat):Int)<(es.length:Int)+1:=by rw [hrm];omega
  have HMM:Hid (qn (C.look {D with reads:=D.reads+n1} 2) m):=by show qn _ _;rw [zI];exact HM.out
  go_wp2_with fail
  refine(YE W6 bc bd S T _ C HCW6.out m HMM.out (by show 0≤D.reads+n1;omega) (by show D.reads+n1≤_;omega) (fun j=>j=g) HGT.out HGd.out (some ⟨g,0,none⟩) cp 5 (.inr rfl) es' HR6.out HES'.out (es.length+1) hlen' (by omega) (by omega) hcp.1 hcp.2 at_ (by omega)).mono ?_
  rintro r w7 ⟨rfl,⟨n7,T7,hn70,hn71,hc7,hT7⟩,hk7⟩
  have HC7:Hid _:=hc7
  have HT7:Hid _:=hT7
  have HK7:Hid (Kept (fun j=>j=bd∨T j) W6 w7):=hk7
  have HBr7:Hid (w7.heap[w.heap.size+1]? =_):=(hk7.block _ (by omega) (fun hc=>hc.elim (fun h=>by omega) (fun h=>by have:=HTL.out _ h;omega))).trans HBr6.out
  have q0:w7.cell? ⟨w.heap.size+1,0,none⟩=some (.string ⟨#[]⟩):=cR HBr7.out rfl
  have q1:w7.cell? ⟨w.heap.size+1,1,none⟩=some (.int .i64 0):=cR HBr7.out rfl
  have q2:w7.cell? ⟨w.heap.size+1,2,none⟩=some (.bool false):=cR HBr7.out rfl
  have q3:w7.cell? ⟨w.heap.size+1,3,none⟩=some (.int .i64 0):=cR HBr7.out rfl
  have q4:w7.cell? ⟨w.heap.size+1,4,none⟩=some (.int .i64 0):=cR HBr7.out rfl
  have f0:=frozen_of_row w7 (w.heap.size+1) 0 _ _ HBr7.out
  have f1:=frozen_of_row w7 (w.heap.size+1) 1 _ _ HBr7.out
  have f2:=frozen_of_row w7 (w.heap.size+1) 2 _ _ HBr7.out
  have f3:=frozen_of_row w7 (w.heap.size+1) 3 _ _ HBr7.out
  have f4:=frozen_of_row w7 (w.heap.size+1) 4 _ _ HBr7.out
  clear hc7 hT7 hk7
  generalize hpl:(es'.getD (es'.length/2) vX).pl=pl at*
  generalize hsp:C.split D.bs.length m at_ 5 es'=sp at*
  obtain⟨sa,sC,sm⟩:=sp
  dsimp only at HC7 ⊢
  have HPL:Hid ((es'.getD (es'.length/2) vX).pl=pl):=hpl
  have HSP:Hid (C.split D.bs.length m at_ 5 es'=(sa,sC,sm)):=hsp
  clear hpl hsp
  unfold qp
  go_wp2
  obtain⟨hh,kS⟩:=jD w7 (w.heap.size+1) 109 _ _ _ _ _ (.string pl.key) (.int .i64 pl.num) (.bool false) (.int .i64 0) (.int .i64 (sa:Int)) HBr7.out
  refine bodyPost_ret (v:=.tuple #[.agg (qp ⟨pl,false,0,sa⟩).toArray,.bool true]) (yn Tryz.results137 _ _ (w.heap.size+1) 109 _ (0,0) _ rfl hh Tryz.underlying109 rfl (by kernel_rfl)) rfl ⟨by rw [HPL.out,HSP.out],⟨n1+n7,T7,by omega,by omega,?_,fun j hj=>(HT7.out j hj).imp id (fun h=>by have:=HKW6.out.size;omega)⟩,?_⟩
  ·have:=HC7.out.kept kS (fun j hj e0=>by have:=HSL.out j hj;omega) (fun j hj e0=>by
    rcases HT7.out j hj with h1|h1
    ·have:=HTL.out j h1;omega
    ·omega)
   rw [Int.add_assoc] at this
   rw [HSP.out]
   exact this
  ·exact(HKW6.out.trans HK7.out (fun j hj=>.inl hj)).trans kS (fun j hj=>.inr (by omega))
structure Below (bc bd:Nat) (S T:Nat→Prop) (D:Dk) (C:Ck) (at_:Nat) (e:En) (M:Nat) (f:Bool) (v:List Value) (C':Ck):Prop where
 go:∀(w0:World) (n0:Int),0≤n0→n0≤1→Cw w0 bc bd S T {D with reads:=D.reads+n0} C→Calls Tryz.prog 137 #[.pointer (some ⟨bc,0,none⟩),.int .i64 at_,.agg (qp e).toArray] w0 fun r w'=>r=.returned (.tuple #[.agg v.toArray,.bool f])∧(∃(n:Int) (T':Nat→Prop),0≤n∧n≤M∧Cw w' bc bd S T' {D with reads:=D.reads+n0+n} C'∧∀j,T' j→T j∨w0.heap.size≤j)∧Kept (fun j=>j=bd∨T j) w0 w'
theorem Xq(w:World)(bc bd:Nat)(S T:Nat→Prop)(D:Dk)(C:Ck)(h:Cw w bc bd S T D C)(m:List UInt8)(hm:qn (C.look D 2) m)(hr0:0≤D.reads)(hr1:D.reads≤4611686018427380000)(at_:Nat)(hat:at_<65536)(es:List En)(hes:∀e∈es,e.Ok)(h4:∀e∈es,e.mark=false∧e.size=0)(hlen:es.length≤6)(hs:yg es)(hl:C.look D at_=zl (za 4 es))(e:En)(he:e.Ok)(hfew:C.ws.length<700)(M:Nat)(C':Ck)(c:Nat)(hc:zw es e.pl=c)(hcl:c<es.length)(hrec:Below bc bd S T D C es[c].at_ e M false qo C'):
 Calls Tryz.prog 137 #[.pointer (some ⟨bc,0,none⟩),.int .i64 at_,.agg (qp e).toArray] w fun r w'=>r=.returned (.tuple #[.agg qo.toArray,.bool false])∧(∃(n:Int) (T':Nat→Prop),0≤n∧n≤M+1∧Cw w' bc bd S T' {D with reads:=D.reads+n} C'∧∀j,T' j→T j∨w.heap.size≤j)∧Kept (fun j=>j=bd∨T j) w w':=by
 have HH:Hid _:=h
 have HM:Hid _:=hm
 have H4:Hid (∀e∈es,e.mark=false∧e.size=0):=h4
 have HREC:Hid _:=hrec
 have HES:Hid (∀e∈es,e.Ok):=hes
 have HS:Hid (yg es):=hs
 have HL:Hid _:=hl
 have HE:Hid e.Ok:=he
 clear h hm hes hs hl he h4 hrec
 have hbd:bd<w.heap.size:=HH.out.disk.lt bd HH.out.disk.bdS
 have HTL:Hid (∀j,T j→j<w.heap.size):=HH.out.chg.lt
 have HSL:Hid (∀j,S j→j<w.heap.size):=HH.out.disk.lt
 have HK0:Hid (Kept (fun _=>False) w ((w.alloc (.cells (qp e).toArray 109)).alloc (.cells qo.toArray 109))):=Kept.alloc2 _ _ _
 have HBr:Hid (((w.alloc (.cells (qp e).toArray 109)).alloc (.cells qo.toArray 109)).heap[w.heap.size+1]? =some (.cells qo.toArray 109 (0,0))):=heap_alloc2_new w _ _
 have HBe:Hid (((w.alloc (.cells (qp e).toArray 109)).alloc (.cells qo.toArray 109)).heap[w.heap.size]? =some (.cells (qp e).toArray 109 (0,0))):=((Kept.alloc (fun _=>False) _ _).block w.heap.size (by simp) id).trans (heap_alloc_new w _)
 have hsW:((w.alloc (.cells (qp e).toArray 109)).alloc (.cells qo.toArray 109)).heap.size=w.heap.size+2:=by simp
 unfold qo at HK0 HBr HBe hsW
 unfold qp at HK0 HBr HBe hsW ⊢
 go_enter Tryz.func137,Tryz.ntmps137
 go_wp2_with fail
 change Hid (Kept _ w ((w.alloc (.cells #[.string e.pl.key,.int .i64 e.pl.num,.bool e.mark,.int .i64 (e.size:Int),.int .i64 (e.at_:Int)] 109)).alloc (.cells #[.string ⟨#[]⟩,.int .i64 0,.bool false,.int .i64 0,.int .i64 0] 109))) at HK0
 generalize ((w.alloc (.cells #[.string e.pl.key,.int .i64 e.pl.num,.bool e.mark,.int .i64 (e.size:Int),.int .i64 (e.at_:Int)] 109)).alloc (.cells #[.string ⟨#[]⟩,.int .i64 0,.bool false,.int .i64 0,.int .i64 0] 109))=W at*
 refine(yf W bc bd S T D C (HH.out.kept0 HK0.out) hr0 (by omega) at_ hat 4 es (.inl rfl) HES.out (fun _=>H4.out) hlen HL.out).mono ?_
 rintro r w1 ⟨a,cap,rfl,⟨n1,hn0,hn1,hc1⟩,hk1,hrow1,hown1,hfr1⟩
 have HC1:Hid _:=hc1
 have HK1:Hid (Kept (fun j=>j=bd) W w1):=hk1
 have HO1:Hid (w1.ownsRow 0 109 5 (.slice a es.length cap) es.length (zf es)):=hown1
 have HF1:Hid _:=hfr1
 have HRW1:Hid _:=hrow1
 have hsz1:=hk1.size
 have HBe1:Hid (w1.heap[w.heap.size]? =_):=(hk1.block _ (by omega) (by omega)).trans HBe.out
 have HBr1:Hid (w1.heap[w.heap.size+1]? =_):=(hk1.block _ (by omega) (by omega)).trans HBr.out
 clear hc1 hk1 hown1 hfr1 hrow1
 have x0:w1.cell? ⟨w.heap.size,0,none⟩=some (.string e.pl.key):=cR HBe1.out rfl
 have x1:w1.cell? ⟨w.heap.size,1,none⟩=some (.int .i64 e.pl.num):=cR HBe1.out rfl
 have hlw1:w.heap.size<w1.heap.size:=by omega
 have hlo1:∀j,(Value.slice a es.length cap).ownBlock=some j→W.heap.size≤j∧j<w1.heap.size:=fun j hj=>⟨HF1.out j hj,(HO1.out.lt j hj).2⟩
 have HLO:Hid (∀j,(Value.slice a es.length cap).ownBlock=some j→W.heap.size≤j∧j<w1.heap.size):=hlo1
 clear hlo1
 go_wp2_with fail
 have HKN:Hid (Kept (fun _=>False) w1 (w1.alloc (.cells #[.int .u8 4,.slice a es.length cap] 209))):=Kept.alloc _ _ _
 have HBN:Hid ((w1.alloc (.cells #[.int .u8 4,.slice a es.length cap] 209)).heap[w1.heap.size]? =some (.cells #[.int .u8 4,.slice a es.length cap] 209 (0,0))):=heap_alloc_new w1 _
 have hsN:(w1.alloc (.cells #[.int .u8 4,.slice a es.length cap] 209)).heap.size=w1.heap.size+1:=by simp
 generalize (w1.alloc (.cells #[.int .u8 4,.slice a es.length cap] 209))=WN at*
 refine(xC WN _ a cap es (HRW1.out.kept HKN.out nF) HS.out 4 e.pl).mono ?_
 rintro r w2 ⟨rfl,hk2⟩
 have HK2:Hid (Kept (fun _=>False) w1 w2):=HKN.out.trans hk2 iL
 have hsz2:=hk2.size
 have HBN2:Hid (w2.heap[w1.heap.size]? =_):=(hk2.block _ (by omega) id).trans HBN.out
 clear hk2
 have HBe2:Hid (w2.heap[w.heap.size]? =_):=(HK2.out.block _ (by omega) id).trans HBe1.out
 have HBr2:Hid (w2.heap[w.heap.size+1]? =_):=(HK2.out.block _ (by omega) id).trans HBr1.out
 have y0:w2.cell? ⟨w.heap.size,0,none⟩=some (.string e.pl.key):=cR HBe2.out rfl
 have y1:w2.cell? ⟨w.heap.size,1,none⟩=some (.int .i64 e.pl.num):=cR HBe2.out rfl
 have y2:w2.cell? ⟨w.heap.size,2,none⟩=some (.bool e.mark):=cR HBe2.out rfl
 have y3:w2.cell? ⟨w.heap.size,3,none⟩=some (.int .i64 (e.size:Int)):=cR HBe2.out rfl
 have y4:w2.cell? ⟨w.heap.size,4,none⟩=some (.int .i64 (e.at_:Int)):=cR HBe2.out rfl
 have z0:w2.cell? ⟨w1.heap.size,0,none⟩=some (.int .u8 4):=cR HBN2.out rfl
 have z1:w2.cell? ⟨w1.heap.size,1,none⟩=some (.slice a es.length cap):=cR HBN2.out rfl
 have HCI:Hid (zw es e.pl=c):=hc
 generalize zm es e.pl=i at*
 clear hc
 go_wp2_with fail
 refine(j8 w2 _ a cap es (HRW1.out.kept HK2.out nF) HS.out 4 e.pl).mono ?_
 rintro r w3 ⟨rfl,hk3⟩
 rw [HCI.out]
 have HK3:Hid (Kept (fun _=>False) w1 w3):=HK2.out.trans hk3 iL
 have hsz3:=hk3.size
 have HBN3:Hid (w3.heap[w1.heap.size]? =_):=(hk3.block _ (by omega) id).trans HBN2.out
 have HBe3:Hid (w3.heap[w.heap.size]? =_):=(hk3.block _ (by omega) id).trans HBe2.out
 have HBr3:Hid (w3.heap[w.heap.size+1]? =_):=(hk3.block _ (by omega) id).trans HBr2.out
 have HR3:Hid (zH w3 (fun b=>W.heap.size≤b) a es):=HRW1.out.kept HK3.out nF
 have HO3:Hid (w3.ownsRow 0 109 5 (.slice a es.length cap) es.length (zf es)):=HK3.out.owns HO1.out nF
 have HCW3:Hid (Cw w3.drew bc bd S T {D with reads:=D.reads+n1} C):=(HC1.out.kept0 HK3.out).kept0 (Kept.drew _ w3)
 have HKW3:Hid (Kept (fun j=>j=bd∨T j) w w3):=((HK0.out.mono fE).trans HK1.out (fun _ h=>.inl (.inl h))).trans HK3.out fE
 clear hk3 y0 y1 y2 y3 y4 z0 z1 x0 x1
 obtain⟨g,o,rfl⟩:=HR3.out.base (by omega)
 obtain⟨-, -, -, -, ec, -, hgl⟩:=HR3.out.cells c hcl
 have hgW:W.heap.size≤g∧g<w1.heap.size:=HLO.out g rfl
 have HBL:Hid (∀w0:World,Cw w0 bc bd S T {D with reads:=D.reads+n1} C→_):=fun w0 hw0=>HREC.out.go w0 n1 hn0 hn1 hw0
 generalize es[c].at_=ca at*
 have y0:w3.cell? ⟨w.heap.size,0,none⟩=some (.string e.pl.key):=cR HBe3.out rfl
 have y1:w3.cell? ⟨w.heap.size,1,none⟩=some (.int .i64 e.pl.num):=cR HBe3.out rfl
 have y2:w3.cell? ⟨w.heap.size,2,none⟩=some (.bool e.mark):=cR HBe3.out rfl
 have y3:w3.cell? ⟨w.heap.size,3,none⟩=some (.int .i64 (e.size:Int)):=cR HBe3.out rfl
 have y4:w3.cell? ⟨w.heap.size,4,none⟩=some (.int .i64 (e.at_:Int)):=cR HBe3.out rfl
 have z1:w3.cell? ⟨w1.heap.size,1,none⟩=some (.slice (some ⟨g,o,none⟩) es.length cap):=cR HBN3.out rfl
 have hclI:(c:Int)<(es.length:Int):=by omega
 have hnd:∀j,w.heap.size≤j→¬(j=bd∨T j):=fun j hj hc=>hc.elim (fun h=>by omega) (fun h=>by have:=HTL.out j h;omega)
 have HND:Hid (∀j,w.heap.size≤j→¬(j=bd∨T j)):=hnd
 clear hnd
 unfold qo at HBL
 have ne1:¬w1.heap.size=w3.heap.size:=by omega
 have ne2:¬g=w3.heap.size:=by omega
 have ne3:¬w.heap.size=w3.heap.size:=by omega
 have ne1':¬w3.heap.size=w1.heap.size:=by omega
 have ne2':¬w3.heap.size=g:=by omega
 have ne3':¬w3.heap.size=w.heap.size:=by omega
 have HKXHCW3:Hid (Kept (fun _=>False) w3 w3.drew):=Kept.drew _ w3
 have HKXHCW3a:Hid (Kept (fun _=>False) w3 (w3.alloc (.cells #[.string ⟨#[]⟩,.int .i64 0,.bool false,.int .i64 0,.int .i64 0] 109)).drew):=(Kept.alloc _ _ _).trans (Kept.drew _ _) iL
 have HCW3a:Hid (Cw (w3.alloc (.cells #[.string ⟨#[]⟩,.int .i64 0,.bool false,.int .i64 0,.int .i64 0] 109)).drew bc bd S T {D with reads:=D.reads+n1} C):=(HC1.out.kept0 HK3.out).kept0 HKXHCW3a.out
 have hsX:(w3.alloc (.cells #[.string ⟨#[]⟩,.int .i64 0,.bool false,.int .i64 0,.int .i64 0] 109)).heap.size=w3.heap.size+1:=by simp
 go_wp2_with fail
 go_region_held3 (fun w'=>w'.cell? ⟨w1.heap.size,1,none⟩=some (.slice (some ⟨g,o,none⟩) es.length cap)∧w'.cell? ⟨g,o+c*5+4,none⟩=some (.int .i64 (ca:Int))∧w'.cell? ⟨w.heap.size,0,none⟩=some (.string e.pl.key)∧w'.cell? ⟨w.heap.size,1,none⟩=some (.int .i64 e.pl.num)∧w'.cell? ⟨w.heap.size,2,none⟩=some (.bool e.mark)∧w'.cell? ⟨w.heap.size,3,none⟩=some (.int .i64 (e.size:Int))∧w'.cell? ⟨w.heap.size,4,none⟩=some (.int .i64 (e.at_:Int))) (go_keep) ((go_at_call 137;first
  |(refine(HBL.out _ (by exact HCW3.out)).mono ?_;rintro r w4 ⟨rfl,⟨n4,T4,hn40,hn4M,hc4,hT4⟩,hk4⟩;have HC4:Hid _:=hc4;have HT4:Hid (∀j,T4 j→T j∨w3.drew.heap.size≤j):=hT4;have HK4:Hid (Kept (fun j=>j=bd∨T j) w3.drew w4):=hk4;have HK34:Hid (Kept (fun j=>j=bd∨T j) w3 w4):=(HKXHCW3.out.mono fE).trans hk4 iL;have HBN4:Hid (w4.heap[w1.heap.size]? =_):=(HK34.out.block _ (show w1.heap.size<w3.heap.size by omega) (HND.out _ (by omega))).trans HBN3.out;have HBe4:Hid (w4.heap[w.heap.size]? =_):=(HK34.out.block _ (show w.heap.size<w3.heap.size by omega) (HND.out _ (by omega))).trans HBe3.out;have HBr4:Hid (w4.heap[w.heap.size+1]? =_):=(HK34.out.block _ (show w.heap.size+1<w3.heap.size by omega) (HND.out _ (by omega))).trans HBr3.out;have z41:w4.cell? ⟨w1.heap.size,1,none⟩=some (.slice (some ⟨g,o,none⟩) es.length cap):=(cR HBN4.out rfl);have ec4:w4.cell? ⟨g,o+c*5+4,none⟩=some (.int .i64 (ca:Int)):=(HK34.out.cell (a:=⟨g,o+c*5+4,none⟩) (show g<w3.heap.size by omega) (HND.out g (by omega))).trans ec;have y40:w4.cell? ⟨w.heap.size,0,none⟩=some (.string e.pl.key):=(cR HBe4.out rfl);have y41:w4.cell? ⟨w.heap.size,1,none⟩=some (.int .i64 e.pl.num):=(cR HBe4.out rfl);have y42:w4.cell? ⟨w.heap.size,2,none⟩=some (.bool e.mark):=(cR HBe4.out rfl);have y43:w4.cell? ⟨w.heap.size,3,none⟩=some (.int .i64 (e.size:Int)):=(cR HBe4.out rfl);have y44:w4.cell? ⟨w.heap.size,4,none⟩=some (.int .i64 (e.at_:Int)):=(cR HBe4.out rfl);have hsz4:w3.heap.size≤w4.heap.size:=HK34.out.size;have ne4:¬w1.heap.size=w4.heap.size:=(by omega);have ne5:¬g=w4.heap.size:=(by omega);have ne6:¬w.heap.size=w4.heap.size:=(by omega);clear hc4 hT4 hk4)
  |(refine(HBL.out _ (by exact HCW3a.out)).mono ?_;rintro r w4 ⟨rfl,⟨n4,T4,hn40,hn4M,hc4,hT4⟩,hk4⟩;have HC4:Hid _:=hc4;have HT4:Hid (∀j,T4 j→T j∨(w3.alloc (.cells #[.string ⟨#[]⟩,.int .i64 0,.bool false,.int .i64 0,.int .i64 0] 109)).drew.heap.size≤j):=hT4;have HK4:Hid (Kept (fun j=>j=bd∨T j) (w3.alloc (.cells #[.string ⟨#[]⟩,.int .i64 0,.bool false,.int .i64 0,.int .i64 0] 109)).drew w4):=hk4;have HK34:Hid (Kept (fun j=>j=bd∨T j) w3 w4):=(HKXHCW3a.out.mono fE).trans hk4 iL;have HBN4:Hid (w4.heap[w1.heap.size]? =_):=(HK34.out.block _ (show w1.heap.size<w3.heap.size by omega) (HND.out _ (by omega))).trans HBN3.out;have HBe4:Hid (w4.heap[w.heap.size]? =_):=(HK34.out.block _ (show w.heap.size<w3.heap.size by omega) (HND.out _ (by omega))).trans HBe3.out;have HBr4:Hid (w4.heap[w.heap.size+1]? =_):=(HK34.out.block _ (show w.heap.size+1<w3.heap.size by omega) (HND.out _ (by omega))).trans HBr3.out;have z41:w4.cell? ⟨w1.heap.size,1,none⟩=some (.slice (some ⟨g,o,none⟩) es.length cap):=(cR HBN4.out rfl);have ec4:w4.cell? ⟨g,o+c*5+4,none⟩=some (.int .i64 (ca:Int)):=(HK34.out.cell (a:=⟨g,o+c*5+4,none⟩) (show g<w3.heap.size by omega) (HND.out g (by omega))).trans ec;have y40:w4.cell? ⟨w.heap.size,0,none⟩=some (.string e.pl.key):=(cR HBe4.out rfl);have y41:w4.cell? ⟨w.heap.size,1,none⟩=some (.int .i64 e.pl.num):=(cR HBe4.out rfl);have y42:w4.cell? ⟨w.heap.size,2,none⟩=some (.bool e.mark):=(cR HBe4.out rfl);have y43:w4.cell? ⟨w.heap.size,3,none⟩=some (.int .i64 (e.size:Int)):=(cR HBe4.out rfl);have y44:w4.cell? ⟨w.heap.size,4,none⟩=some (.int .i64 (e.at_:Int)):=(cR HBe4.out rfl);have hsz4:w3.heap.size≤w4.heap.size:=HK34.out.size;have ne4:¬w1.heap.size=w4.heap.size:=(by omega);have ne5:¬g=w4.heap.size:=(by omega);have ne6:¬w.heap.size=w4.heap.size:=(by omega);have HZ4:Hid (w4.heap[w3.heap.size]? =some (.cells #[.string ⟨#[]⟩,.int .i64 0,.bool false,.int .i64 0,.int .i64 0] 109 (0,0))):=(hk4.block w3.heap.size (show w3.heap.size<(w3.alloc (.cells #[.string ⟨#[]⟩,.int .i64 0,.bool false,.int .i64 0,.int .i64 0] 109)).heap.size by rw [hsX];omega) (HND.out _ (by omega))).trans (heap_alloc_new w3 _);have zz0:w4.cell? ⟨w3.heap.size,0,none⟩=some (.string ⟨#[]⟩):=(cR HZ4.out rfl);have zf0:=frozen_of_row w4 w3.heap.size 0 _ _ HZ4.out;have zz1:w4.cell? ⟨w3.heap.size,1,none⟩=some (.int .i64 0):=(cR HZ4.out rfl);have zf1:=frozen_of_row w4 w3.heap.size 1 _ _ HZ4.out;have zz2:w4.cell? ⟨w3.heap.size,2,none⟩=some (.bool false):=(cR HZ4.out rfl);have zf2:=frozen_of_row w4 w3.heap.size 2 _ _ HZ4.out;have zz3:w4.cell? ⟨w3.heap.size,3,none⟩=some (.int .i64 0):=(cR HZ4.out rfl);have zf3:=frozen_of_row w4 w3.heap.size 3 _ _ HZ4.out;have zz4:w4.cell? ⟨w3.heap.size,4,none⟩=some (.int .i64 0):=(cR HZ4.out rfl);have zf4:=frozen_of_row w4 w3.heap.size 4 _ _ HZ4.out;clear hc4 hT4 hk4)))
 have HBrX:Hid ((w4.alloc (.cells #[.string ⟨#[]⟩,.int .i64 0,.bool false,.int .i64 0,.int .i64 0] 109)).heap[w.heap.size+1]? =_):=((Kept.alloc (fun _=>False) w4 _).block _ (by omega) id).trans HBr4.out
 have HCX:Hid (Cw (w4.alloc (.cells #[.string ⟨#[]⟩,.int .i64 0,.bool false,.int .i64 0,.int .i64 0] 109)) bc bd S T4 {D with reads:=D.reads+n1+n4} C'):=HC4.out.kept0 (Kept.alloc _ _ _)
 have HKWX:Hid (Kept (fun j=>j=bd∨T j) w (w4.alloc (.cells #[.string ⟨#[]⟩,.int .i64 0,.bool false,.int .i64 0,.int .i64 0] 109))):=(HKW3.out.trans HK34.out iL).trans (Kept.alloc (fun _=>False) _ _) fE
 have HTX:Hid (∀j,T4 j→T j∨w3.heap.size≤j):=HT4.out
 have hsX4:w4.heap.size≤(w4.alloc (.cells #[.string ⟨#[]⟩,.int .i64 0,.bool false,.int .i64 0,.int .i64 0] 109)).heap.size:=by simp
 generalize (w4.alloc (.cells #[.string ⟨#[]⟩,.int .i64 0,.bool false,.int .i64 0,.int .i64 0] 109))=X at*
 rotate_left
 obtain⟨hh5,kS5⟩:=jD w4 w3.heap.size 109 _ _ _ _ _ (.string ⟨#[]⟩) (.int .i64 0) (.bool false) (.int .i64 0) (.int .i64 0) HZ4.out
 have HBrX:Hid ((((((w4.setCell ⟨w3.heap.size,0,none⟩ (.string ⟨#[]⟩)).setCell ⟨w3.heap.size,1,none⟩ (.int .i64 0)).setCell ⟨w3.heap.size,2,none⟩ (.bool false)).setCell ⟨w3.heap.size,3,none⟩ (.int .i64 0)).setCell ⟨w3.heap.size,4,none⟩ (.int .i64 0)).heap[w.heap.size+1]? =_):=(kS5.block _ (by omega) (by omega)).trans HBr4.out
 have HTX:Hid (∀j,T4 j→T j∨w3.heap.size≤j):=fun j hj=>(HT4.out j hj).imp id (fun h=>by have h':(w3.alloc (.cells #[.string ⟨#[]⟩,.int .i64 0,.bool false,.int .i64 0,.int .i64 0] 109)).heap.size≤j:=h;omega)
 have HCX:Hid (Cw (((((w4.setCell ⟨w3.heap.size,0,none⟩ (.string ⟨#[]⟩)).setCell ⟨w3.heap.size,1,none⟩ (.int .i64 0)).setCell ⟨w3.heap.size,2,none⟩ (.bool false)).setCell ⟨w3.heap.size,3,none⟩ (.int .i64 0)).setCell ⟨w3.heap.size,4,none⟩ (.int .i64 0)) bc bd S T4 {D with reads:=D.reads+n1+n4} C'):=HC4.out.kept kS5 (fun j hj e0=>by have:=HSL.out j hj;omega) (fun j hj e0=>by
  rcases HT4.out j hj with h1|h1
  ·have:=HTL.out j h1;omega
  ·have h':(w3.alloc (.cells #[.string ⟨#[]⟩,.int .i64 0,.bool false,.int .i64 0,.int .i64 0] 109)).heap.size≤j:=h1;omega)
 have HKWX:Hid (Kept (fun j=>j=bd∨T j) w (((((w4.setCell ⟨w3.heap.size,0,none⟩ (.string ⟨#[]⟩)).setCell ⟨w3.heap.size,1,none⟩ (.int .i64 0)).setCell ⟨w3.heap.size,2,none⟩ (.bool false)).setCell ⟨w3.heap.size,3,none⟩ (.int .i64 0)).setCell ⟨w3.heap.size,4,none⟩ (.int .i64 0))):=(HKW3.out.trans HK34.out iL).trans kS5 (fun j hj=>.inr (by omega))
 have hsX4:w4.heap.size≤(((((w4.setCell ⟨w3.heap.size,0,none⟩ (.string ⟨#[]⟩)).setCell ⟨w3.heap.size,1,none⟩ (.int .i64 0)).setCell ⟨w3.heap.size,2,none⟩ (.bool false)).setCell ⟨w3.heap.size,3,none⟩ (.int .i64 0)).setCell ⟨w3.heap.size,4,none⟩ (.int .i64 0)).heap.size:=kS5.size
 clear hh5 kS5
 generalize (((((w4.setCell ⟨w3.heap.size,0,none⟩ (.string ⟨#[]⟩)).setCell ⟨w3.heap.size,1,none⟩ (.int .i64 0)).setCell ⟨w3.heap.size,2,none⟩ (.bool false)).setCell ⟨w3.heap.size,3,none⟩ (.int .i64 0)).setCell ⟨w3.heap.size,4,none⟩ (.int .i64 0))=X at*
 rotate_left
 all_goals
  have q0:X.cell? ⟨w.heap.size+1,0,none⟩=some (.string ⟨#[]⟩):=cR HBrX.out rfl
  have f0:=frozen_of_row X (w.heap.size+1) 0 _ _ HBrX.out
  have q1:X.cell? ⟨w.heap.size+1,1,none⟩=some (.int .i64 0):=cR HBrX.out rfl
  have f1:=frozen_of_row X (w.heap.size+1) 1 _ _ HBrX.out
  have q2:X.cell? ⟨w.heap.size+1,2,none⟩=some (.bool false):=cR HBrX.out rfl
  have f2:=frozen_of_row X (w.heap.size+1) 2 _ _ HBrX.out
  have q3:X.cell? ⟨w.heap.size+1,3,none⟩=some (.int .i64 0):=cR HBrX.out rfl
  have f3:=frozen_of_row X (w.heap.size+1) 3 _ _ HBrX.out
  have q4:X.cell? ⟨w.heap.size+1,4,none⟩=some (.int .i64 0):=cR HBrX.out rfl
  have f4:=frozen_of_row X (w.heap.size+1) 4 _ _ HBrX.out
  go_wp2
  obtain⟨hh,kS⟩:=jD X (w.heap.size+1) 109 _ _ _ _ _ (.string ⟨#[]⟩) (.int .i64 0) (.bool false) (.int .i64 0) (.int .i64 0) HBrX.out
  refine bodyPost_ret (v:=.tuple #[.agg qo.toArray,.bool false]) (yn Tryz.results137 _ _ (w.heap.size+1) 109 _ (0,0) _ rfl hh Tryz.underlying109 rfl (by kernel_rfl)) rfl ⟨rfl,⟨n1+n4,T4,by omega,by omega,?_,fun j hj=>(HTX.out j hj).imp id (fun h=>by omega)⟩,?_⟩
  ·have:=HCX.out.kept kS (fun j hj e0=>by have:=HSL.out j hj;omega) (fun j hj e0=>by
    rcases HTX.out j hj with h1|h1
    ·have:=HTL.out j h1;omega
    ·omega)
   rw [Int.add_assoc] at this
   exact this
  ·exact HKWX.out.trans kS (fun j hj=>.inr (by omega))
end prog
end Go.Proofs.YtcoengihaobddaaGreatDoor

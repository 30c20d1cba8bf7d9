/- Part 30 of 34 of a proof: Rem10, Rem8, Tr6, Shr1, Tr7 -/
import Derived.Test.YtcoengihaobddaaGreatDoorJk29
set_option maxHeartbeats 8000000
set_option linter.unusedVariables false
set_option linter.unusedSimpArgs false
set_option maxRecDepth 8000
namespace Go.Proofs.YtcoengihaobddaaGreatDoor
namespace prog
open Go.ChangeShapes Go.WideShapes Go.ChangeAt Go.RowKit disk ref
open keys (ze zd zr zn)
structure yY (bc bd:Nat) (S T:Nat→Prop) (D:Dk) (C:Ck) (root:Nat) (p:Pl) (root':Nat) (v:List Value) (ok:Bool) (C':Ck):Prop where
 go:∀(w:World) (r:Int),0≤r→r≤4611686018427360000→Cw w bc bd S T {D with reads:=r} C→
  Calls Tryz.prog 79 #[.pointer (some ⟨bc,0,none⟩),.int .i64 root,.agg #[.string p.key,.int .i64 p.num]] w fun x w'=>x=.returned (.tuple #[.int .i64 (root':Int),.agg v.toArray,.bool ok])∧(∃(n:Int) (T':Nat→Prop),0≤n∧n≤27∧Cw w' bc bd S T' {D with reads:=r+n} C'∧∀j,T' j→T j∨w.heap.size≤j)∧Kept (fun j=>j=bd∨T j) w w'
theorem xn{P:Program}{fn:Func}{p u v:Tmp}{ty:TypeId}(h:fn.results=#[.tmp u,.cell p ty,.tmp v])(tmps:Array Value)(w:World)(g:Nat)(t:TypeId)(cs:Array Value)(fr:Nat×Nat)(d:TypeDesc)
 (hp:tmps.getD p undef=.pointer (some ⟨g,0,none⟩)) (hg:w.heap[g]? =some (.cells cs t fr))
 (hu:P.underlying ty=some d) (hd:(match d with|.struct _|.array _ _=>true|_=>false)=true) (hi:(P.info? ty).map (·.size)=some cs.size):
 (results fn tmps).run P w=.ok (.tuple #[tmps.getD u undef,.agg cs,tmps.getD v undef]) w:=by
 have hp':tmps[p]?.getD undef=.pointer (some ⟨g,0,none⟩):=by simpa using hp
 simp [results,h,hp',asAddr,run_loadVar_row w g t ty cs fr d hg hu hd hi]
theorem ZQ(w:World)(bc:Nat)(p:Pl)(root:Nat)(h0:root=0):Calls Tryz.prog 79 #[.pointer (some ⟨bc,0,none⟩),.int .i64 (root:Int),.agg #[.string p.key,.int .i64 p.num]] w fun x w'=>x=.returned (.tuple #[.int .i64 (root:Int),.agg qo.toArray,.bool false])∧Kept (fun _=>False) w w':=by
 have hz:((root:Int)==0)=true:=by rw [h0];rfl
 clear h0
 unfold qo
 go_enter Tryz.func79,Tryz.ntmps79
 go_wp2
 have HW:=J6 w p
 exact bodyPost_ret (xn rfl _ _ _ _ _ _ _ rfl HW.res Tryz.underlying109 rfl (by kernel_rfl)) rfl ⟨rfl,HW.kept⟩
def J8(bc bd:Nat)(S:Nat→Prop)(D:Dk)(C1:Ck)(root:Nat)(s:Bool)(root':Nat)(C2:Ck):Prop:=
 (s=false∧root'=root∧C2=C1)∨(s=true∧∀(w0:World) (T0:Nat→Prop) (r:Int),0≤r→r≤4611686018427380000→Cw w0 bc bd S T0 {D with reads:=r} C1→Calls Tryz.prog 142 #[.pointer (some ⟨bc,0,none⟩),.int .i64 (root:Int)] w0 fun x w'=>x=.returned (.int .i64 (root':Nat))∧(∃(n:Int) (T':Nat→Prop),0≤n∧n≤2∧Cw w' bc bd S T' {D with reads:=r+n} C2∧∀j,T' j→T0 j∨w0.heap.size≤j)∧Kept (fun j=>j=bd∨T0 j) w0 w')
theorem jV(w:World)(bc bd:Nat)(S T:Nat→Prop)(D:Dk)(C:Ck)(r:Int)(h:Cw w bc bd S T {D with reads:=r} C)(hr0:0≤r)(p:Pl)(hh root:Nat)(hroot:root≠0)(hr1:r+(4*hh:Nat)≤4611686018427370000)(hh6:hh≤6)(v:List Value)(hv:∃(v0:ByteArray) (v1:Int) (v2:Bool) (v3 v4:Int),v=[.string v0,.int .i64 v1,.bool v2,.int .i64 v3,.int .i64 v4])(s ok:Bool)(C1:Ck)(hI:kt bc bd S T D C hh root p v s ok C1)(root':Nat)(C2:Ck)(hcase:J8 bc bd S D C1 root s root' C2):
 Calls Tryz.prog 79 #[.pointer (some ⟨bc,0,none⟩),.int .i64 root,.agg #[.string p.key,.int .i64 p.num]] w fun x w'=>x=.returned (.tuple #[.int .i64 (root':Int),.agg v.toArray,.bool ok])∧(∃(n:Int) (T':Nat→Prop),0≤n∧n≤27∧Cw w' bc bd S T' {D with reads:=r+n} C2∧∀j,T' j→T j∨w.heap.size≤j)∧Kept (fun j=>j=bd∨T j) w w':=by
 have HH:Hid _:=h
 have HI:Hid (kt bc bd S T D C hh root p v s ok C1):=hI
 obtain⟨v0,v1,v2,v3,v4,rfl⟩:=hv
 have HCASE:Hid (J8 bc bd S D C1 root s root' C2):=hcase
 clear h hI hcase
 have hbd:bd<w.heap.size:=HH.out.disk.lt bd HH.out.disk.bdS
 have HTL:Hid (∀j,T j→j<w.heap.size):=HH.out.chg.lt
 have HSL:Hid (∀j,S j→j<w.heap.size):=HH.out.disk.lt
 have hz:((root:Int)==0)=false:=beq_false_of_ne (by omega)
 have HW:Hid _:=J6 w p
 go_enter Tryz.func79,Tryz.ntmps79
 go_wp2_with fail
 generalize ((w.alloc (.cells #[.string p.key,.int .i64 p.num] 107)).alloc (.cells #[.string ⟨#[]⟩,.int .i64 0,.bool false,.int .i64 0,.int .i64 0] 109))=W at*
 have hsW:=HW.out.size
 refine(HI.out.go W r hr0 hr1 (HH.out.kept0 HW.out.kept)).mono ?_
 rintro x w1 ⟨rfl,⟨n1,T1,hn0,hn1,hc1,hT1⟩,hk1⟩
 have HC1:Hid (Cw w1 bc bd S T1 {D with reads:=r+n1} C1):=hc1
 have HT1:Hid (∀j,T1 j→T j∨W.heap.size≤j):=hT1
 have HK1:Hid (Kept (fun j=>j=bd∨T j) W w1):=hk1
 have hz1:=hk1.size
 have HND:Hid (∀j,w.heap.size≤j→¬(j=bd∨T j)):=fun j hj hc=>hc.elim (fun h=>by omega) (fun h=>by have:=HTL.out j h;omega)
 have HBr1:Hid (w1.heap[w.heap.size+1]? =_):=(hk1.block _ (by omega) (HND.out _ (by omega))).trans HW.out.res
 clear hc1 hT1 hk1
 rcases HCASE.out with⟨rfl,hq1,hq2⟩|⟨rfl,hlow⟩
 case' inr=>
  have HLOW:Hid (∀(w0:World) (T0:Nat→Prop) (r:Int),0≤r→r≤4611686018427380000→Cw w0 bc bd S T0 {D with reads:=r} C1→Calls Tryz.prog 142 #[.pointer (some ⟨bc,0,none⟩),.int .i64 (root:Int)] w0 fun x w'=>x=.returned (.int .i64 (root':Nat))∧(∃(n:Int) (T':Nat→Prop),0≤n∧n≤2∧Cw w' bc bd S T' {D with reads:=r+n} C2∧∀j,T' j→T0 j∨w0.heap.size≤j)∧Kept (fun j=>j=bd∨T0 j) w0 w'):=hlow
  clear hlow
 case' inl=>
  have HQ1:Hid (root'=root):=hq1
  have HQ2:Hid (C2=C1):=hq2
  clear hq1 hq2
 all_goals
  clear HCASE
  go_wp2_with fail
  have HKA:Hid (Kept (fun _=>False) w1 (w1.alloc (.cells #[.string v0,.int .i64 v1,.bool v2,.int .i64 v3,.int .i64 v4] 109))):=Kept.alloc _ _ _
  have HBA:Hid ((w1.alloc (.cells #[.string v0,.int .i64 v1,.bool v2,.int .i64 v3,.int .i64 v4] 109)).heap[w1.heap.size]? =some (.cells #[.string v0,.int .i64 v1,.bool v2,.int .i64 v3,.int .i64 v4] 109 (0,0))):=heap_alloc_new w1 _
  have hsA:(w1.alloc (.cells #[.string v0,.int .i64 v1,.bool v2,.int .i64 v3,.int .i64 v4] 109)).heap.size=w1.heap.size+1:=by simp
  generalize (w1.alloc (.cells #[.string v0,.int .i64 v1,.bool v2,.int .i64 v3,.int .i64 v4] 109))=A at*
  have HBrA:Hid (A.heap[w.heap.size+1]? =_):=(HKA.out.block _ (by omega) id).trans HBr1.out
  have HCA:Hid (Cw A bc bd S T1 {D with reads:=r+n1} C1):=HC1.out.kept0 HKA.out
  have HKwA:Hid (Kept (fun j=>j=bd∨T j) w A):=((HW.out.kept.mono fE).trans HK1.out iL).trans HKA.out fE
  have ne1:¬w1.heap.size=w.heap.size+1:=by omega
  have ne1':¬w.heap.size+1=w1.heap.size:=by omega
  have HFIN:Hid (∀(B:World) (n:Int) (T':Nat→Prop) (root':Nat) (C2:Ck) (tmps:Array Value),0≤n→n≤27→Cw B bc bd S T' {D with reads:=r+n} C2→(∀j,T' j→T j∨W.heap.size≤j)→Kept (fun j=>j=bd∨T j) w B→B.heap[w.heap.size+1]? =some (.cells #[.string ⟨#[]⟩,.int .i64 0,.bool false,.int .i64 0,.int .i64 0] 109 (0,0))→tmps.getD 6 undef=.int .i64 (root':Int)→tmps.getD 7 undef=.pointer (some ⟨w.heap.size+1,0,none⟩)→tmps.getD 8 undef=.bool ok→
   bodyPost Tryz.prog Tryz.f79 (fun x w'=>x=.returned (.tuple #[.int .i64 (root':Int),.agg #[.string v0,.int .i64 v1,.bool v2,.int .i64 v3,.int .i64 v4],.bool ok])∧(∃(n:Int) (T':Nat→Prop),0≤n∧n≤27∧Cw w' bc bd S T' {D with reads:=r+n} C2∧∀j,T' j→T j∨w.heap.size≤j)∧Kept (fun j=>j=bd∨T j) w w') .ret {tmps:=tmps,defers:=[]} (((((B.setCell ⟨w.heap.size+1,0,none⟩ (.string v0)).setCell ⟨w.heap.size+1,1,none⟩ (.int .i64 v1)).setCell ⟨w.heap.size+1,2,none⟩ (.bool v2)).setCell ⟨w.heap.size+1,3,none⟩ (.int .i64 v3)).setCell ⟨w.heap.size+1,4,none⟩ (.int .i64 v4)).drew):=by
   intro B n T' root' C2 tmps hn hn' hcB hT' hkB hb h6 h7 h8
   obtain⟨hb9,hk9⟩:=jD B (w.heap.size+1) 109 _ _ _ _ _ (.string v0) (.int .i64 v1) (.bool v2) (.int .i64 v3) (.int .i64 v4) hb
   generalize (((((B.setCell ⟨w.heap.size+1,0,none⟩ (.string v0)).setCell ⟨w.heap.size+1,1,none⟩ (.int .i64 v1)).setCell ⟨w.heap.size+1,2,none⟩ (.bool v2)).setCell ⟨w.heap.size+1,3,none⟩ (.int .i64 v3)).setCell ⟨w.heap.size+1,4,none⟩ (.int .i64 v4))=Y at*
   have kY:=hk9.trans (Kept.drew (fun _=>False) Y) fE
   refine bodyPost_ret (xn rfl _ _ _ _ _ _ _ h7 (show Y.drew.heap[w.heap.size+1]? =_ from hb9) Tryz.underlying109 rfl (by kernel_rfl)) rfl ⟨by rw [h6,h8],⟨n,T',hn,hn',hcB.kept kY (fun j hj e0=>by have:=HSL.out j hj;omega) (fun j hj e0=>?_),fun j hj=>(hT' j hj).imp id (fun h=>by omega)⟩,hkB.trans kY (fun j hj=>.inr (by omega))⟩
   rcases hT' j hj with h|h
   ·have:=HTL.out j h;omega
   ·omega
  have HQ:Hid (∀B:World,B.heap[w.heap.size+1]? =some (.cells #[.string ⟨#[]⟩,.int .i64 0,.bool false,.int .i64 0,.int .i64 0] 109 (0,0))→B.cell? ⟨w.heap.size+1,0,none⟩=some (.string ⟨#[]⟩)∧B.cell? ⟨w.heap.size+1,1,none⟩=some (.int .i64 0)∧B.cell? ⟨w.heap.size+1,2,none⟩=some (.bool false)∧B.cell? ⟨w.heap.size+1,3,none⟩=some (.int .i64 0)∧B.cell? ⟨w.heap.size+1,4,none⟩=some (.int .i64 0)∧∀o,B.frozen? ⟨w.heap.size+1,o,none⟩=false):=fun B hb=>⟨cR hb rfl,cR hb rfl,cR hb rfl,cR hb rfl,cR hb rfl,fun o=>frozen_of_row B _ o _ _ hb⟩
  have HE:Hid (∀B:World,B.heap[w1.heap.size]? =some (.cells #[.string v0,.int .i64 v1,.bool v2,.int .i64 v3,.int .i64 v4] 109 (0,0))→B.cell? ⟨w1.heap.size,0,none⟩=some (.string v0)∧B.cell? ⟨w1.heap.size,1,none⟩=some (.int .i64 v1)∧B.cell? ⟨w1.heap.size,2,none⟩=some (.bool v2)∧B.cell? ⟨w1.heap.size,3,none⟩=some (.int .i64 v3)∧B.cell? ⟨w1.heap.size,4,none⟩=some (.int .i64 v4)):=fun B hb=>⟨cR hb rfl,cR hb rfl,cR hb rfl,cR hb rfl,cR hb rfl⟩
 ·obtain⟨e0,e1,e2,e3,e4⟩:=HE.out A HBA.out
  obtain⟨q0,q1,q2,q3,q4,qf⟩:=HQ.out A HBrA.out
  have f0:=qf 0
  have f1:=qf 1
  have f2:=qf 2
  have f3:=qf 3
  have f4:=qf 4
  clear qf
  try go_wp2_with fail
  go_region_held3 (fun w'=>w'.cell? ⟨w1.heap.size,0,none⟩=some (.string v0)∧w'.cell? ⟨w1.heap.size,1,none⟩=some (.int .i64 v1)∧w'.cell? ⟨w1.heap.size,2,none⟩=some (.bool v2)∧w'.cell? ⟨w1.heap.size,3,none⟩=some (.int .i64 v3)∧w'.cell? ⟨w1.heap.size,4,none⟩=some (.int .i64 v4)) (go_keep) (fail)
  go_wp2
  exact HFIN.out A n1 T1 root' C2 _ hn0 (by omega) (by rw [HQ2.out];exact HCA.out) HT1.out HKwA.out HBrA.out (by rw [HQ1.out];rfl) rfl rfl
 ·refine(HLOW.out A T1 (r+n1) (by omega) (by omega) HCA.out).mono ?_
  rintro x B ⟨rfl,⟨n2,T2,hn20,hn21,hc2,hT2⟩,hk2⟩
  have HCB:Hid (Cw B bc bd S T2 {D with reads:=r+n1+n2} C2):=hc2
  have HT2:Hid (∀j,T2 j→T j∨W.heap.size≤j):=fun j hj=>(hT2 j hj).elim (HT1.out j) (fun h=>.inr (by omega))
  have HNT1:Hid (∀j,w.heap.size≤j→j<W.heap.size∨j=w1.heap.size→¬(j=bd∨T1 j)):=fun j hj hj2 hc=>by
   rcases hc with h|h
   ·omega
   ·have h1:=HC1.out.chg.lt j h
    rcases HT1.out j h with h|h
    ·have:=HTL.out j h;omega
    ·omega
  have HBB:Hid (B.heap[w1.heap.size]? =_):=(hk2.block _ (by omega) (HNT1.out _ (by omega) (.inr rfl))).trans HBA.out
  have HBrB:Hid (B.heap[w.heap.size+1]? =_):=(hk2.block _ (by omega) (HNT1.out _ (by omega) (.inl (by omega)))).trans HBrA.out
  have HKwB:Hid (Kept (fun j=>j=bd∨T j) w B):=HKwA.out.trans hk2 (fun j hj=>by
   rcases hj with h|h
   ·exact .inl (.inl h)
   ·exact(HT1.out j h).imp .inr (fun h=>by omega))
  clear hc2 hT2 hk2
  obtain⟨e0,e1,e2,e3,e4⟩:=HE.out B HBB.out
  obtain⟨q0,q1,q2,q3,q4,qf⟩:=HQ.out B HBrB.out
  have f0:=qf 0
  have f1:=qf 1
  have f2:=qf 2
  have f3:=qf 3
  have f4:=qf 4
  clear qf
  go_wp2_with fail
  go_region_held3 (fun w'=>w'.cell? ⟨w1.heap.size,0,none⟩=some (.string v0)∧w'.cell? ⟨w1.heap.size,1,none⟩=some (.int .i64 v1)∧w'.cell? ⟨w1.heap.size,2,none⟩=some (.bool v2)∧w'.cell? ⟨w1.heap.size,3,none⟩=some (.int .i64 v3)∧w'.cell? ⟨w1.heap.size,4,none⟩=some (.int .i64 v4)) (go_keep) (fail)
  go_wp2
  exact HFIN.out B (n1+n2) T2 root' C2 _ (by omega) (by omega) (by rw [←Int.add_assoc];exact HCB.out) HT2.out HKwB.out HBrB.out rfl rfl rfl
def J9(bc bd:Nat)(S:Nat→Prop)(D:Dk)(C1:Ck)(es:List En)(c at_:Nat)(s ok s2 ok2:Bool)(C3:Ck):Prop:=
 (s=false∧s2=false∧ok2=ok∧C3=C1)∨
  (s=true∧ok2=true∧∃es2 C2,dO bc bd S D C1 es c es2 C2∧(∀x∈es2,x.Ok)∧es2.length≤6∧C2.ws.length<1000∧decide ((es2.length:Int)<3)=s2∧C3=C2.put at_ (zl (za 4 es2)))
theorem kw(w:World)(bc bd:Nat)(S T:Nat→Prop)(D:Dk)(C:Ck)(h:Cw w bc bd S T D C)(hr0:0≤D.reads)(hr1:D.reads≤4611686018427370000)(at_:Nat)(hat:at_<65536)(es:List En)(hes:∀e∈es,e.Ok)(h4:∀e∈es,e.mark=false∧e.size=0)(hlen:es.length≤6)(hs:yg es)(hl:C.look D at_=zl (za 4 es))(p:Pl)(M:Nat)(hM:M≤1000)(v:List Value)(hv:∃(v0:ByteArray) (v1:Int) (v2:Bool) (v3 v4:Int),v=[.string v0,.int .i64 v1,.bool v2,.int .i64 v3,.int .i64 v4])(s ok:Bool)(C1:Ck)(c:Nat)(hc:zw es p=c)(hcl:c<es.length)(hrec:J5 bc bd S T D C es[c].at_ p M v s ok C1)(s2 ok2:Bool)(C3:Ck)(hcase:J9 bc bd S D C1 es c at_ s ok s2 ok2 C3):
 Calls Tryz.prog 141 #[.pointer (some ⟨bc,0,none⟩),.int .i64 at_,.agg #[.string p.key,.int .i64 p.num]] w fun x w'=>x=.returned (.tuple #[.agg v.toArray,.bool s2,.bool ok2])∧(∃(n:Int) (T':Nat→Prop),0≤n∧n≤M+4∧Cw w' bc bd S T' {D with reads:=D.reads+n} C3∧∀j,T' j→T j∨w.heap.size≤j)∧Kept (fun j=>j=bd∨T j) w w':=by
 have HH:Hid _:=h
 have HES:Hid (∀e∈es,e.Ok):=hes
 have H4:Hid (∀e∈es,e.mark=false∧e.size=0):=h4
 have HS:Hid (yg es):=hs
 have HL:Hid _:=hl
 have HCI:Hid (zw es p=c):=hc
 have HREC:Hid (J5 bc bd S T D C es[c].at_ p M v s ok C1):=hrec
 have HCASE:Hid (J9 bc bd S D C1 es c at_ s ok s2 ok2 C3):=hcase
 have hbd:bd<w.heap.size:=h.disk.lt bd h.disk.bdS
 have HTL:Hid (∀j,T j→j<w.heap.size):=h.chg.lt
 have HSL:Hid (∀j,S j→j<w.heap.size):=h.disk.lt
 obtain⟨v0,v1,v2,v3,v4,rfl⟩:=hv
 clear h hes hs hl hc hrec hcase h4
 have HW:Hid _:=J6 w p
 go_enter Tryz.func141,Tryz.ntmps141
 go_wp2_with fail
 generalize ((w.alloc (.cells #[.string p.key,.int .i64 p.num] 107)).alloc (.cells #[.string ⟨#[]⟩,.int .i64 0,.bool false,.int .i64 0,.int .i64 0] 109))=W at*
 refine(yf W bc bd S T D C (HH.out.kept0 HW.out.kept) hr0 (by omega) at_ hat 4 es (.inl rfl) HES.out (fun _=>H4.out) hlen HL.out).mono ?_
 rintro r w1 ⟨a,cap,rfl,⟨n1,hn0,hn1,hc1⟩,hk1,hrow1,hown1,hfr1⟩
 have HC1:Hid (Cw w1 bc bd S T {D with reads:=D.reads+n1} C):=hc1
 have HK1:Hid (Kept (fun j=>j=bd) W w1):=hk1
 have HRW1:Hid _:=hrow1
 have HO1:Hid (w1.ownsRow 0 109 5 (.slice a es.length cap) es.length (zf es)):=hown1
 have hsW:=HW.out.size
 have hsz1:=hk1.size
 have HBp1:Hid (w1.heap[w.heap.size]? =_):=(hk1.block _ (by omega) (by omega)).trans HW.out.pl
 have HBr1:Hid (w1.heap[w.heap.size+1]? =_):=(hk1.block _ (by omega) (by omega)).trans HW.out.res
 obtain⟨g,o,rfl⟩:=hrow1.base (by omega)
 obtain rfl:o=0:=by
  rcases hown1.2 with⟨h0,_⟩|⟨g',cap',cur,hv,_⟩
  ·cases h0
  ·simp only [Value.slice.injEq,Option.some.injEq,Addr.mk.injEq] at hv;exact hv.1.2.1
 have hgW:W.heap.size≤g:=hfr1 g rfl
 have hg1:g<w1.heap.size:=(hown1.lt g rfl).2
 clear hc1 hk1 hown1 hfr1 hrow1
 have x0:w1.cell? ⟨w.heap.size,0,none⟩=some (.string p.key):=cR HBp1.out rfl
 have x1:w1.cell? ⟨w.heap.size,1,none⟩=some (.int .i64 p.num):=cR HBp1.out rfl
 have hlw1:w.heap.size<w1.heap.size:=by omega
 go_wp2_with fail
 have HKN:Hid (Kept (fun _=>False) w1 (w1.alloc (.cells #[.int .u8 4,.slice (some ⟨g,0,none⟩) es.length cap] 209))):=Kept.alloc _ _ _
 have HBN:Hid ((w1.alloc (.cells #[.int .u8 4,.slice (some ⟨g,0,none⟩) es.length cap] 209)).heap[w1.heap.size]? =some (.cells #[.int .u8 4,.slice (some ⟨g,0,none⟩) es.length cap] 209 (0,0))):=heap_alloc_new w1 _
 have hsN:(w1.alloc (.cells #[.int .u8 4,.slice (some ⟨g,0,none⟩) es.length cap] 209)).heap.size=w1.heap.size+1:=by simp
 generalize (w1.alloc (.cells #[.int .u8 4,.slice (some ⟨g,0,none⟩) es.length cap] 209))=WN at*
 refine(j8 WN _ _ cap es (HRW1.out.kept HKN.out nF) HS.out 4 p).mono ?_
 rintro r w3 ⟨rfl,hk3⟩
 rw [HCI.out]
 have HK3:Hid (Kept (fun _=>False) w1 w3):=HKN.out.trans hk3 iL
 have hsz3:=hk3.size
 have HBN3:Hid (w3.heap[w1.heap.size]? =_):=(hk3.block _ (by omega) id).trans HBN.out
 have HBp3:Hid (w3.heap[w.heap.size]? =_):=(HK3.out.block _ (by omega) id).trans HBp1.out
 have HBr3:Hid (w3.heap[w.heap.size+1]? =_):=(HK3.out.block _ (by omega) id).trans HBr1.out
 have HR3:Hid (zH w3 (fun b=>W.heap.size≤b) (some ⟨g,0,none⟩) es):=HRW1.out.kept HK3.out nF
 clear hk3 x0 x1
 obtain⟨-, -, -, -, ec, -, -⟩:=HR3.out.cells c hcl
 simp only [Nat.zero_add] at ec
 have HBL:Hid (∀w0:World,Cw w0 bc bd S T {D with reads:=D.reads+n1} C→_):=fun w0 hw0=>HREC.out.go w0 n1 hn0 hn1 hw0
 generalize es[c].at_=ca at*
 have y0:w3.cell? ⟨w.heap.size,0,none⟩=some (.string p.key):=cR HBp3.out rfl
 have y1:w3.cell? ⟨w.heap.size,1,none⟩=some (.int .i64 p.num):=cR HBp3.out rfl
 have z1:w3.cell? ⟨w1.heap.size,1,none⟩=some (.slice (some ⟨g,0,none⟩) es.length cap):=cR HBN3.out rfl
 have HEC:Hid (w3.cell? ⟨g,c*5+4,none⟩=some (.int .i64 (ca:Int))):=ec
 have hclI:(c:Int)<(es.length:Int):=by omega
 have HND:Hid (∀j,w.heap.size≤j→¬(j=bd∨T j)):=fun j hj hc=>hc.elim (fun h=>by omega) (fun h=>by have:=HTL.out j h;omega)
 have HCW3:Hid (Cw w3.drew bc bd S T {D with reads:=D.reads+n1} C):=(HC1.out.kept0 HK3.out).kept0 (Kept.drew _ w3)
 have HKw3:Hid (Kept (fun j=>j=bd∨T j) w w3):=((HW.out.kept.mono fE).trans HK1.out (fun _ h=>.inl (.inl h))).trans HK3.out fE
 have HO3:Hid (w3.ownsRow 0 109 5 (.slice (some ⟨g,0,none⟩) es.length cap) es.length (zf es)):=HK3.out.owns HO1.out nF
 have ne1:¬w.heap.size+1=w1.heap.size:=by omega
 have ne2:¬w.heap.size+1=g:=by omega
 have ne1':¬w1.heap.size=w.heap.size+1:=by omega
 have ne2':¬g=w.heap.size+1:=by omega
 go_wp2_with fail
 go_region_held3 (fun w'=>w'.cell? ⟨w1.heap.size,1,none⟩=some (.slice (some ⟨g,0,none⟩) es.length cap)∧w'.cell? ⟨g,c*5+4,none⟩=some (.int .i64 (ca:Int))∧w'.cell? ⟨w.heap.size,0,none⟩=some (.string p.key)∧w'.cell? ⟨w.heap.size,1,none⟩=some (.int .i64 p.num)) (go_keep) ((go_at_call 141;refine(HBL.out _ (by exact HCW3.out)).mono ?_;rintro r w4 ⟨rfl,⟨n4,T4,hn40,hn4M,hc4,hT4⟩,hk4⟩;have HC4:Hid (Cw w4 bc bd S T4 {D with reads:=D.reads+n1+n4} C1):=hc4;have HT4:Hid (∀j,T4 j→T j∨w3.heap.size≤j):=hT4;have HK34:Hid (Kept (fun j=>j=bd∨T j) w3 w4):=((Kept.drew (fun _=>False) w3).mono fE).trans hk4 iL;have HBN4:Hid (w4.heap[w1.heap.size]? =some (.cells #[.int .u8 4,.slice (some ⟨g,0,none⟩) es.length cap] 209 (0,0))):=(HK34.out.block _ (show w1.heap.size<w3.heap.size by omega) (HND.out _ (by omega))).trans HBN3.out;have HBp4:Hid (w4.heap[w.heap.size]? =some (.cells #[.string p.key,.int .i64 p.num] 107 (0,0))):=(HK34.out.block _ (show w.heap.size<w3.heap.size by omega) (HND.out _ (by omega))).trans HBp3.out;have HBr4:Hid (w4.heap[w.heap.size+1]? =some (.cells #[.string ⟨#[]⟩,.int .i64 0,.bool false,.int .i64 0,.int .i64 0] 109 (0,0))):=(HK34.out.block _ (show w.heap.size+1<w3.heap.size by omega) (HND.out _ (by omega))).trans HBr3.out;have z41:w4.cell? ⟨w1.heap.size,1,none⟩=some (.slice (some ⟨g,0,none⟩) es.length cap):=(cR HBN4.out rfl);have ec4:w4.cell? ⟨g,c*5+4,none⟩=some (.int .i64 (ca:Int)):=(HK34.out.cell (a:=⟨g,c*5+4,none⟩) (show g<w3.heap.size by omega) (HND.out g (by omega))).trans HEC.out;have y40:w4.cell? ⟨w.heap.size,0,none⟩=some (.string p.key):=(cR HBp4.out rfl);have y41:w4.cell? ⟨w.heap.size,1,none⟩=some (.int .i64 p.num):=(cR HBp4.out rfl);have hsz4:w3.heap.size≤w4.heap.size:=HK34.out.size;have q0:w4.cell? ⟨w.heap.size+1,0,none⟩=some (.string ⟨#[]⟩):=(cR HBr4.out rfl);have q1:w4.cell? ⟨w.heap.size+1,1,none⟩=some (.int .i64 0):=(cR HBr4.out rfl);have q2:w4.cell? ⟨w.heap.size+1,2,none⟩=some (.bool false):=(cR HBr4.out rfl);have q3:w4.cell? ⟨w.heap.size+1,3,none⟩=some (.int .i64 0):=(cR HBr4.out rfl);have q4:w4.cell? ⟨w.heap.size+1,4,none⟩=some (.int .i64 0):=(cR HBr4.out rfl);have f0:=frozen_of_row w4 (w.heap.size+1) 0 _ _ HBr4.out;have f1:=frozen_of_row w4 (w.heap.size+1) 1 _ _ HBr4.out;have f2:=frozen_of_row w4 (w.heap.size+1) 2 _ _ HBr4.out;have f3:=frozen_of_row w4 (w.heap.size+1) 3 _ _ HBr4.out;have f4:=frozen_of_row w4 (w.heap.size+1) 4 _ _ HBr4.out;clear hc4 hT4 hk4;dsimp only))
 obtain⟨hbX,hkX⟩:=jD w4 (w.heap.size+1) 109 _ _ _ _ _ (.string v0) (.int .i64 v1) (.bool v2) (.int .i64 v3) (.int .i64 v4) HBr4.out
 have HBX:Hid _:=hbX
 have HKX:Hid _:=hkX
 clear hbX hkX q0 q1 q2 q3 q4 f0 f1 f2 f3 f4 y0 y1 z1 z41 ec ec4 y40 y41 HBL HREC
 generalize (((((w4.setCell ⟨w.heap.size+1,0,none⟩ (.string v0)).setCell ⟨w.heap.size+1,1,none⟩ (.int .i64 v1)).setCell ⟨w.heap.size+1,2,none⟩ (.bool v2)).setCell ⟨w.heap.size+1,3,none⟩ (.int .i64 v3)).setCell ⟨w.heap.size+1,4,none⟩ (.int .i64 v4))=X at*
 have hzX:=HKX.out.size
 have HNX:Hid (∀j,S j∨T4 j→j≠w.heap.size+1):=fun j hj e0=>by
  rcases hj with h|h
  ·have:=HSL.out j h;omega
  ·rcases HT4.out j h with h|h
   ·have:=HTL.out j h;omega
   ·omega
 have HCX:Hid (Cw X bc bd S T4 {D with reads:=D.reads+n1+n4} C1):=HC4.out.kept HKX.out (fun j hj=>HNX.out j (.inl hj)) (fun j hj=>HNX.out j (.inr hj))
 have HKwX:Hid (Kept (fun j=>j=bd∨T j) w X):=(HKw3.out.trans HK34.out iL).trans HKX.out (fun j hj=>.inr (by omega))
 have HBNX:Hid (X.heap[w1.heap.size]? =_):=(HKX.out.block _ (by omega) (by omega)).trans HBN4.out
 rcases HCASE.out with⟨rfl,rfl,rfl,rfl⟩|⟨rfl,rfl,es2,C2,hmd,hok2,hl2,hfw2,hsc,hC3⟩
 ·have t0:X.cell? ⟨w.heap.size+1,0,none⟩=some (.string v0):=cR HBX.out rfl
  have t1:X.cell? ⟨w.heap.size+1,1,none⟩=some (.int .i64 v1):=cR HBX.out rfl
  have t2:X.cell? ⟨w.heap.size+1,2,none⟩=some (.bool v2):=cR HBX.out rfl
  have t3:X.cell? ⟨w.heap.size+1,3,none⟩=some (.int .i64 v3):=cR HBX.out rfl
  have t4:X.cell? ⟨w.heap.size+1,4,none⟩=some (.int .i64 v4):=cR HBX.out rfl
  have f0:=frozen_of_row X (w.heap.size+1) 0 _ _ HBX.out
  have f1:=frozen_of_row X (w.heap.size+1) 1 _ _ HBX.out
  have f2:=frozen_of_row X (w.heap.size+1) 2 _ _ HBX.out
  have f3:=frozen_of_row X (w.heap.size+1) 3 _ _ HBX.out
  have f4:=frozen_of_row X (w.heap.size+1) 4 _ _ HBX.out
  go_wp2
  obtain⟨hb7,hk7⟩:=jD X (w.heap.size+1) 109 _ _ _ _ _ (.string v0) (.int .i64 v1) (.bool v2) (.int .i64 v3) (.int .i64 v4) HBX.out
  refine bodyPost_ret (yE rfl _ _ _ _ _ _ _ rfl hb7 Tryz.underlying109 rfl (by kernel_rfl)) rfl ⟨rfl,⟨n1+n4,T4,by omega,by omega,?_,fun j hj=>(HT4.out j hj).imp id (fun h=>by omega)⟩,HKwX.out.trans hk7 (fun j hj=>.inr (by omega))⟩
  have:=HCX.out.kept hk7 (fun j hj=>HNX.out j (.inl hj)) (fun j hj=>HNX.out j (.inr hj))
  rw [Int.add_assoc] at this
  exact this
 ·have HOK2:Hid (∀x∈es2,x.Ok):=hok2
  have HSC:Hid (decide ((es2.length:Int)<3)=s2):=hsc
  have HC3:Hid (C3=C2.put at_ (zl (za 4 es2))):=hC3
  have HGX:Hid (¬(g=bd∨T g)):=HND.out g (by omega)
  have HOX:Hid (X.ownsRow 0 109 5 (.slice (some ⟨g,0,none⟩) es.length cap) es.length (zf es)):=HKX.out.owns (HK34.out.owns HO3.out (fun j hj hc=>by simp [Value.ownBlock] at hj;subst hj;exact HGX.out hc)) (fun j hj e0=>by simp [Value.ownBlock] at hj;omega)
  have HMD:Hid (Calls Tryz.prog 180 #[.agg #[.int .u8 4,.slice (some ⟨g,0,none⟩) es.length cap],.pointer (some ⟨bc,0,none⟩),.int .i64 c] X fun x w'=>x=.returned (.agg #[.int .u8 4,.slice (some ⟨g,0,none⟩) es2.length cap])∧w'.ownsRow 0 109 5 (.slice (some ⟨g,0,none⟩) es2.length cap) es2.length (zf es2)∧(∃(n:Int) (T':Nat→Prop),0≤n∧n≤3∧Cw w' bc bd S T' {D with reads:=D.reads+n1+n4+n} C2∧∀j,T' j→T4 j∨X.heap.size≤j)∧Kept (fun j=>j=bd∨T4 j∨j=g) X w'):=
   hmd.go X T4 (D.reads+n1+n4) g cap (by omega) (by omega) HCX.out HOX.out (fun hS=>by have:=HSL.out g hS;omega) (fun hT=>by
    rcases HT4.out g hT with h|h
    ·have:=HTL.out g h;omega
    ·omega)
  clear hok2 hsc hC3 hmd HCASE
  have p0:X.cell? ⟨w1.heap.size,0,none⟩=some (.int .u8 4):=cR HBNX.out rfl
  have p1:X.cell? ⟨w1.heap.size,1,none⟩=some (.slice (some ⟨g,0,none⟩) es.length cap):=cR HBNX.out rfl
  go_wp2_with fail
  refine HMD.out.mono ?_
  rintro r w5 ⟨rfl,ho5,⟨n5,T5,hn50,hn51,hc5,hT5⟩,hk5⟩
  have HO5:Hid (w5.ownsRow 0 109 5 (.slice (some ⟨g,0,none⟩) es2.length cap) es2.length (zf es2)):=ho5
  have HC5:Hid (Cw w5 bc bd S T5 {D with reads:=D.reads+n1+n4+n5} C2):=hc5
  have HT5:Hid (∀j,T5 j→T j∨w3.heap.size≤j):=fun j hj=>(hT5 j hj).elim (HT4.out j) (fun h=>.inr (by omega))
  have HNT4:Hid (∀j,w.heap.size≤j→j<w3.heap.size→¬T4 j):=fun j h1 h2 hc=>by
   rcases HT4.out j hc with h|h
   ·have:=HTL.out j h;omega
   ·omega
  have HNT5:Hid (∀j,w.heap.size≤j→j<w3.heap.size→¬T5 j):=fun j h1 h2 hc=>by
   rcases HT5.out j hc with h|h
   ·have:=HTL.out j h;omega
   ·omega
  have HBN5:Hid (w5.heap[w1.heap.size]? =_):=(hk5.block _ (by omega) (fun hc=>by
   rcases hc with h|h|h
   ·omega
   ·exact HNT4.out _ (by omega) (by omega) h
   ·omega)).trans HBNX.out
  have HBX5:Hid (w5.heap[w.heap.size+1]? =_):=(hk5.block _ (by omega) (fun hc=>by
   rcases hc with h|h|h
   ·omega
   ·exact HNT4.out _ (by omega) (by omega) h
   ·omega)).trans HBX.out
  have HKw5:Hid (Kept (fun j=>j=bd∨T j) w w5):=HKwX.out.trans hk5 (fun j hj=>by
   rcases hj with h|h|h
   ·exact .inl (.inl h)
   ·rcases HT4.out j h with h|h
    ·exact .inl (.inr h)
    ·exact .inr (by omega)
   ·exact .inr (by omega))
  have hz5:=hk5.size
  clear ho5 hc5 hT5 hk5 p0 p1
  have p0:w5.cell? ⟨w1.heap.size,0,none⟩=some (.int .u8 4):=cR HBN5.out rfl
  have p1:w5.cell? ⟨w1.heap.size,1,none⟩=some (.slice (some ⟨g,0,none⟩) es.length cap):=cR HBN5.out rfl
  have pf0:=frozen_of_row w5 w1.heap.size 0 _ _ HBN5.out
  have pf1:=frozen_of_row w5 w1.heap.size 1 _ _ HBN5.out
  go_wp2_with fail
  have hB1:=heap_setCell_same w5 w1.heap.size 0 _ _ (.int .u8 4) HBN5.out
  have HB6:Hid (((w5.setCell ⟨w1.heap.size,0,none⟩ (.int .u8 4)).setCell ⟨w1.heap.size,1,none⟩ (.slice (some ⟨g,0,none⟩) es2.length cap)).heap[w1.heap.size]? =some (.cells #[.int .u8 4,.slice (some ⟨g,0,none⟩) es2.length cap] 209 (0,0))):=heap_setCell_same _ w1.heap.size 1 _ _ _ hB1
  have HK6:Hid (Kept (fun j=>j=w1.heap.size) w5 ((w5.setCell ⟨w1.heap.size,0,none⟩ (.int .u8 4)).setCell ⟨w1.heap.size,1,none⟩ (.slice (some ⟨g,0,none⟩) es2.length cap))):=(Kept.setCell (S:=fun j=>j=w1.heap.size) w5 ⟨w1.heap.size,0,none⟩ _ rfl).trans (Kept.setCell (S:=fun j=>j=w1.heap.size) _ ⟨w1.heap.size,1,none⟩ _ rfl) iL
  generalize ((w5.setCell ⟨w1.heap.size,0,none⟩ (.int .u8 4)).setCell ⟨w1.heap.size,1,none⟩ (.slice (some ⟨g,0,none⟩) es2.length cap))=Y at*
  clear p0 p1 pf0 pf1 hB1
  have hzY:=HK6.out.size
  have HBXY:Hid (Y.heap[w.heap.size+1]? =_):=(HK6.out.block _ (by omega) (by omega)).trans HBX5.out
  have HOY:Hid (Y.ownsRow 0 109 5 (.slice (some ⟨g,0,none⟩) es2.length cap) es2.length (zf es2)):=HK6.out.owns HO5.out (fun j hj e0=>by simp [Value.ownBlock] at hj;omega)
  have HRY:Hid (zH Y (fun j=>j=g) (some ⟨g,0,none⟩) es2):=zH.of_own HOY.out (fun j hj=>by simp [Value.ownBlock] at hj;exact hj.symm) (by omega)
  have HCY:Hid (Cw Y bc bd S T5 {D with reads:=D.reads+n1+n4+n5} C2):=HC5.out.kept HK6.out (fun j hj e0=>by have:=HSL.out j hj;omega) (fun j hj e0=>HNT5.out w1.heap.size (by omega) (by omega) (by rw [←show j=w1.heap.size from e0];exact hj))
  refine(jQ Y bc bd S T5 _ C2 HCY.out _ _ cap 4 (.inl rfl) es2 HRY.out HOK2.out hl2 at_ hfw2 _ rfl).mono ?_
  rintro r w7 ⟨rfl,⟨T7,hc7,hT7⟩,hk7⟩
  have HC7:Hid (Cw w7 bc bd S T7 {D with reads:=D.reads+n1+n4+n5} C3):=by rw [HC3.out];exact hc7
  have HT7:Hid (∀j,T7 j→T j∨w3.heap.size≤j):=fun j hj=>(hT7 j hj).elim (HT5.out j) (fun h=>.inr (by omega))
  have HBN7:Hid (w7.heap[w1.heap.size]? =_):=(hk7.block _ (by omega) (HNT5.out _ (by omega) (by omega))).trans HB6.out
  have HBX7:Hid (w7.heap[w.heap.size+1]? =some (.cells #[.string v0,.int .i64 v1,.bool v2,.int .i64 v3,.int .i64 v4] 109 (0,0))):=(hk7.block _ (by omega) (HNT5.out _ (by omega) (by omega))).trans HBXY.out
  have HKw7:Hid (Kept (fun j=>j=bd∨T j) w w7):=(HKw5.out.trans HK6.out (fun j hj=>.inr (by omega))).trans hk7 (fun j hj=>(HT5.out j hj).imp .inr (fun h=>by omega))
  have hz7:=hk7.size
  clear hc7 hT7 hk7
  have HSCA:Hid (∀u,Calls Tryz.prog 182 #[.agg #[.int .u8 4,.slice (some ⟨g,0,none⟩) es2.length cap]] u fun e w'=>e=.returned (.bool s2)∧Kept (fun _=>False) u w'):=fun u=>by
   have:=dM u 4 (.inl rfl) (some ⟨g,0,none⟩) es2.length cap
   rw [HSC.out] at this
   exact this
  have HB8:Hid (∀u,Kept (fun _=>False) w7 u→u.heap[w.heap.size+1]? =some (.cells #[.string v0,.int .i64 v1,.bool v2,.int .i64 v3,.int .i64 v4] 109 (0,0))):=fun u k=>(k.block _ (by omega) id).trans HBX7.out
  have t0:w7.cell? ⟨w.heap.size+1,0,none⟩=some (.string v0):=cR HBX7.out rfl
  have t1:w7.cell? ⟨w.heap.size+1,1,none⟩=some (.int .i64 v1):=cR HBX7.out rfl
  have t2:w7.cell? ⟨w.heap.size+1,2,none⟩=some (.bool v2):=cR HBX7.out rfl
  have t3:w7.cell? ⟨w.heap.size+1,3,none⟩=some (.int .i64 v3):=cR HBX7.out rfl
  have t4:w7.cell? ⟨w.heap.size+1,4,none⟩=some (.int .i64 v4):=cR HBX7.out rfl
  have t5:w7.cell? ⟨w1.heap.size,0,none⟩=some (.int .u8 4):=cR HBN7.out rfl
  have t6:w7.cell? ⟨w1.heap.size,1,none⟩=some (.slice (some ⟨g,0,none⟩) es2.length cap):=cR HBN7.out rfl
  have hl7:w.heap.size+1<w7.heap.size:=by omega
  go_wp2_with fail
  go_region_law (go_simp;go_at_call 182;refine(HSCA.out w7.drew).mono ?_;rintro r w8 ⟨rfl,hk8⟩;have HK8:Hid (Kept (fun _=>False) w7 w8):=(Kept.drew (fun _=>False) w7).trans hk8 iL;have hb8:=HB8.out w8 HK8.out;have HBX8:Hid (w8.heap[w.heap.size+1]? =some (.cells #[.string v0,.int .i64 v1,.bool v2,.int .i64 v3,.int .i64 v4] 109 (0,0))):=hb8;have u0:w8.cell? ⟨w.heap.size+1,0,none⟩=some (.string v0):=(cR hb8 rfl);have u1:w8.cell? ⟨w.heap.size+1,1,none⟩=some (.int .i64 v1):=(cR hb8 rfl);have u2:w8.cell? ⟨w.heap.size+1,2,none⟩=some (.bool v2):=(cR hb8 rfl);have u3:w8.cell? ⟨w.heap.size+1,3,none⟩=some (.int .i64 v3):=(cR hb8 rfl);have u4:w8.cell? ⟨w.heap.size+1,4,none⟩=some (.int .i64 v4):=(cR hb8 rfl);have b0:=frozen_of_row w8 (w.heap.size+1) 0 _ _ hb8;have b1:=frozen_of_row w8 (w.heap.size+1) 1 _ _ hb8;have b2:=frozen_of_row w8 (w.heap.size+1) 2 _ _ hb8;have b3:=frozen_of_row w8 (w.heap.size+1) 3 _ _ hb8;have b4:=frozen_of_row w8 (w.heap.size+1) 4 _ _ hb8;clear hk8 hb8;dsimp only)
  all_goals
   go_wp2
   obtain⟨hb9,hk9⟩:=jD w8 (w.heap.size+1) 109 _ _ _ _ _ (.string v0) (.int .i64 v1) (.bool v2) (.int .i64 v3) (.int .i64 v4) HBX8.out
   have k79:=(HK8.out.mono (S':=fun j=>j=w.heap.size+1) fE).trans hk9 iL
   refine bodyPost_ret (yE rfl _ _ _ _ _ _ _ rfl hb9 Tryz.underlying109 rfl (by kernel_rfl)) rfl ⟨rfl,⟨n1+n4+n5,T7,by omega,by omega,?_,fun j hj=>(HT7.out j hj).imp id (fun h=>by omega)⟩,HKw7.out.trans k79 (fun j hj=>.inr (by omega))⟩
   have:=HC7.out.kept k79 (fun j hj e0=>by have:=HSL.out j hj;omega) (fun j hj e0=>by
    rcases HT7.out j hj with h1|h1
    ·have:=HTL.out j h1;omega
    ·omega)
   simp only [Int.add_assoc] at this ⊢
   exact this
end prog
namespace prog
open ref
def Tr.join:{h:Nat}→Tr h→Tr h→Tr h
 |0,u,v=>(u.1,u.2++v.2)
 |_+1,u,v=>(u.1,u.2++v.2)
def Tr.cutL(m:Nat):{h:Nat}→Tr h→Tr h
 |0,u=>(u.1,u.2.take m)
 |_+1,u=>(u.1,u.2.take m)
def Tr.cutR(m b:Nat):{h:Nat}→Tr h→Tr h
 |0,u=>(b,u.2.drop m)
 |_+1,u=>(b,u.2.drop m)
theorem Ka:∀{h:Nat} (u v:Tr h),(u.join v).blk=u.blk
 |0,_,_=>rfl
 |_+1,_,_=>rfl
theorem yZ:∀{h:Nat} (u v:Tr h),(u.join v).items=u.items++v.items
 |0,_,_=>rfl
 |_+1,u,v=>List.map_append
theorem jq:∀{h:Nat} (u v:Tr h),(u.join v).ents=u.ents++v.ents
 |0,_,_=>rfl
 |h+1,u,v=>zt u.2 v.2
theorem jW:∀{h:Nat} (u v:Tr h),((u.join v).blocks++[v.blk]).Perm (u.blocks++v.blocks)
 |0,u,v=>List.Perm.refl _
 |h+1,u,v=>by
  show (u.1::zA (u.2++v.2)++[v.1]).Perm (u.1::zA u.2++v.1::zA v.2)
  rw [ql]
  refine List.Perm.trans ?_ List.perm_middle.symm
  exact List.perm_append_comm (l₂:=[v.1])
theorem YP(m b:Nat):∀{h:Nat} (u:Tr h),(u.cutL m).blk=u.blk∧(u.cutR m b).blk=b
 |0,_=>⟨rfl,rfl⟩
 |_+1,_=>⟨rfl,rfl⟩
theorem dP(m b:Nat):∀{h:Nat} (u:Tr h),(u.cutL m).items=u.items.take m∧(u.cutR m b).items=u.items.drop m
 |0,_=>⟨rfl,rfl⟩
 |_+1,u=>⟨List.map_take,List.map_drop⟩
theorem Kb(m b:Nat):∀{h:Nat} (u:Tr h),(u.cutL m).ents++(u.cutR m b).ents=u.ents
 |0,u=>List.take_append_drop m u.2
 |h+1,u=>by
  show zJ (u.2.take m)++zJ (u.2.drop m)=zJ u.2
  rw [←zt,List.take_append_drop]
theorem Yf(m b:Nat):∀{h:Nat} (u:Tr h),((u.cutL m).blocks++(u.cutR m b).blocks).Perm (u.blocks++[b])
 |0,u=>List.Perm.refl _
 |h+1,u=>by
  show (u.1::zA (u.2.take m)++b::zA (u.2.drop m)).Perm (u.1::zA u.2++[b])
  refine List.perm_middle.trans ?_
  rw [List.cons_append,←ql,List.take_append_drop]
  exact List.perm_append_comm (l₁:=[b])
theorem dQ:∀{h:Nat} {u v:Tr h} {p:Pl},u.Good→v.Good→v.First p→(∀e∈u.ents,e.pl.lt p=true)→(u.join v).Good
 |0,u,v,p,gu,gv,_,_=>⟨gu.1,fun e he=>(List.mem_append.1 he).elim (gu.2 e) (gv.2 e)⟩
 |h+1,u,v,p,gu,gv,⟨v0,r,hv⟩,hlt=>by
  have ku:=gu.kids
  have kv:=gv.kids
  have hp:∀a∈u.2,a.1.lt p=true:=fun a ha=>by
   obtain⟨e,he⟩:=(ku.good a ha).1.some_ent (by have:=gu.full a ha;omega)
   obtain⟨A,B,hAB⟩:=List.append_of_mem ha
   obtain⟨q,t⟩:=a
   have:=(ku.seps A q t B hAB).2.1 e (by rw [zo];exact List.mem_append_left _ he)
   exact Pl.lt_of_not this (hlt e (j9 ha he))
  have hk:Kids (u.2++v.2):=by
   rw [hv] at kv ⊢
   exact ku.join kv hlt hp
  exact hk.node (fun c hc=>(List.mem_append.1 hc).elim (gu.full c) (gv.full c)) gu.1
theorem Yg:∀{h:Nat} {u v:Tr h} {p:Pl},u.First p→(u.join v).First p
 |0,_,_,_,_=>trivial
 |h+1,u,v,p,⟨u0,r,hu⟩=>⟨u0,r++v.2,by show u.2++v.2=_;rw [hu];rfl⟩
theorem Kc(m b:Nat)(hb:b<65536):∀{h:Nat} {u:Tr h},u.Good→(u.cutL m).Good∧(u.cutR m b).Good
 |0,u,g=>⟨⟨g.1,fun e he=>g.2 e (List.mem_of_mem_take he)⟩,⟨hb,fun e he=>g.2 e (List.mem_of_mem_drop he)⟩⟩
 |h+1,u,g=>by
  have k:Kids (u.2.take m++u.2.drop m):=by rw [List.take_append_drop];exact g.kids
  exact⟨k.left.node (fun c hc=>g.full c (List.mem_of_mem_take hc)) g.1,k.right.node (fun c hc=>g.full c (List.mem_of_mem_drop hc)) hb⟩
theorem XF{m:Nat}(hm:1≤m):∀{h:Nat} {u:Tr h} {p:Pl},u.First p→(u.cutL m).First p
 |0,_,_,_=>trivial
 |h+1,u,p,⟨u0,r,hu⟩=>⟨u0,r.take (m-1),by
  show u.2.take m=_
  rw [hu,show m=(m-1)+1 from by omega,List.take_succ_cons];rfl⟩
theorem Kd{m b:Nat}(d:En):∀{h:Nat} {u:Tr h},u.Good→yg u.ents→m<u.items.length→(u.cutR m b).First (u.items.getD m d).pl∧(u.items.getD m d).pl.Ok∧(∀x∈(u.cutL m).ents,x.pl.lt (u.items.getD m d).pl=true)∧(∀x∈(u.cutR m b).ents,¬x.pl.lt (u.items.getD m d).pl=true)
 |0,u,g,hs,hm=>by
  have hm':m<u.2.length:=hm
  have hg:u.items.getD m d=u.2[m]:=by show u.2.getD m d=_;rw [List.getD_eq_getElem?_getD,List.getElem?_eq_getElem hm'];rfl
  have hd:u.2.drop m=u.2[m]::u.2.drop (m+1):=List.drop_eq_getElem_cons hm'
  have hs2:yg (u.2.take m++u.2[m]::u.2.drop (m+1)):=by rw [←hd,List.take_append_drop];exact hs
  have hp:=List.pairwise_append.1 hs2
  rw [hg]
  refine⟨trivial,(g.2 _ (List.getElem_mem hm')).pl,fun x hx=>hp.2.2 x hx _ (List.mem_cons_self ..),fun x hx=>?_⟩
  have hx:x∈u.2.drop m:=hx
  rw [hd] at hx
  rcases List.mem_cons.1 hx with rfl|hx
  ·exact Pl.irrefl _
  ·exact Pl.asymm ((List.pairwise_cons.1 hp.2.1).1 x hx)
 |h+1,u,g,hs,hm=>by
  have hm':m<u.2.length:=by rw [ys] at hm;exact hm
  have hg:(u.items.getD m d).pl=u.2[m].1:=by
   rw [List.getD_eq_getElem?_getD,List.getElem?_eq_getElem hm]
   simp [Tr.items]
  have hd:u.2.drop m=(u.2[m].1,u.2[m].2)::u.2.drop (m+1):=List.drop_eq_getElem_cons hm'
  have hk:Kids (u.2.take m++(u.2[m].1,u.2[m].2)::u.2.drop (m+1)):=by rw [←hd,List.take_append_drop];exact g.kids
  obtain⟨m1,m2,m3,m4,m5,m6,m7⟩:=hk.mid
  rw [hg]
  refine⟨⟨_,_,hd⟩,(hk.right.good _ (List.mem_cons_self ..)).2.2,m3,fun x hx=>m4 x ?_⟩
  rw [←hd];exact hx
structure fG {h:Nat} (t:Tr h) (p:Pl) (t':Tr h):Prop where
 blk:t'.blk=t.blk
 good:t'.Good
 lo:t.items.length≤t'.items.length+1
 hi:t'.items.length≤6
 ents:t'.ents=qO p t.ents
 first:∀q,t.First q→t'.First q
theorem yg.erase{l:List En}(h:yg l)(p:Pl)(hi:zm l p<l.length)(he:l[zm l p].pl=p):l.eraseIdx (zm l p)=qO p l:=by
 rw [List.eraseIdx_eq_take_drop_succ];exact(h.find p).1 hi he
theorem XG{b:Nat}{es:List En}{p:Pl}(g:Tr.Good (h:=0) (b,es))(hs:yg es)(h6:es.length≤6)(hi:zm es p<es.length)(he:es[zm es p].pl=p):fG (h:=0) (b,es) p (b,qO p es):=by
 have hl:(qO p es).length+1=es.length:=by rw [←hs.erase p hi he,List.length_eraseIdx_of_lt hi];omega
 refine⟨rfl,⟨g.1,fun x hx=>g.2 x (gU.1 hx).1⟩,?_,?_,rfl,fun _ _=>trivial⟩
 ·show es.length≤(qO p es).length+1;omega
 ·show (qO p es).length≤6;omega
theorem Kids.unroute{h:Nat}{A B:List (Pl×Tr h)}{q:Pl}{tc:Tr h}(k:Kids (A++(q,tc)::B)){p:Pl}(hq:A≠[]→¬p.lt q=true)(hB:∀b∈B,p.lt b.1=true):
 (∀x∈zJ A,x.pl≠p)∧(∀x∈zJ B,x.pl≠p):=by
 obtain⟨m1,m2,m3,m4,m5,m6,m7⟩:=k.mid
 refine⟨fun x hx e=>?_,fun x hx e=>?_⟩
 ·have hA:A≠[]:=fun e0=>by rw [e0] at hx;simp [zJ] at hx
  exact hq hA (e▸m3 x hx)
 ·obtain⟨c,hc,hx⟩:=JK hx
  exact m7 c hc x hx (e▸hB c hc)
theorem kx{h:Nat}{A B:List (Pl×Tr h)}{q p:Pl}{tc tc':Tr h}(kk:Kids (A++(q,tc)::B))(hq:A≠[]→¬p.lt q=true)(hB:∀b∈B,p.lt b.1=true)(k:fG tc p tc'):
 Kids (A++(q,tc')::B)∧zJ (A++(q,tc')::B)=qO p (zJ (A++(q,tc)::B)):=by
 obtain⟨m1,m2,m3,m4,m5,m6,m7⟩:=kk.mid
 have hm:∀x∈tc'.ents,x∈tc.ents:=fun x hx=>by rw [k.ents] at hx;exact(gU.1 hx).1
 refine⟨kk.swap k.good k.hi (k.first _ m5) (fun x hx=>m4 x (by rw [zo];exact List.mem_append_left _ (hm x hx))) (fun b hb x hx=>m6 b hb x (List.mem_append_right _ (hm x hx))),?_⟩
 obtain⟨h1,h2⟩:=kk.unroute hq hB
 rw [zt,zo,zt,zo,xW,xW,xv h1,xv h2,k.ents]
theorem ZR{h:Nat}{b:Nat}{A B:List (Pl×Tr h)}{q p:Pl}{tc tc':Tr h}(g:Tr.Good (h:=h+1) (b,A++(q,tc)::B))(hl:(A++(q,tc)::B).length≤6)(hq:A≠[]→¬p.lt q=true)(hB:∀b∈B,p.lt b.1=true)(k:fG tc p tc')(h3:3≤tc'.items.length):
 fG (h:=h+1) (b,A++(q,tc)::B) p (b,A++(q,tc')::B):=by
 obtain⟨h1,h2⟩:=kx g.kids hq hB k
 have hf3:=g.full
 simp only at hf3
 refine⟨rfl,h1.node (fun c hc=>?_) g.1,?_,?_,h2,fun p hp=>xw hp⟩
 ·rcases List.mem_append.1 hc with hc|hc
  ·exact hf3 c (List.mem_append_left _ hc)
  ·rcases List.mem_cons.1 hc with rfl|hc
   ·exact h3
   ·exact hf3 c (by simp [hc])
 ·rw [zs,zs];simp
 ·rw [zs];simpa using hl
theorem Kids.less{h:Nat}{X Y:List (Pl×Tr h)}{p1 p2:Pl}{u v:Tr h}(k:Kids (X++(p1,u)::(p2,v)::Y)):Kids (X++(p1,u)::Y):=by
 obtain⟨m1,m2,m3,m4,m5,m6,m7⟩:=k.mid
 have kr:=k.right
 have gu:=kr.good (p1,u) (List.mem_cons_self ..)
 have ky:Kids Y:=Kids.right (A:=[(p1,u),(p2,v)]) kr
 refine k.left.join (ky.cons gu.1 gu.2.1 gu.2.2 m5 (fun e he=>m4 e (by rw [zo];exact List.mem_append_left _ he)) (fun b hb=>m2 b (List.mem_cons_of_mem _ hb)) (fun b hb e he=>m6 b (List.mem_cons_of_mem _ hb) e (List.mem_append_right _ he))) m3 m1
theorem Kids.pair{h:Nat}{X Y:List (Pl×Tr h)}{p1 p2:Pl}{u v:Tr h}(k:Kids (X++(p1,u)::(p2,v)::Y))(hs:yg (zJ (X++(p1,u)::(p2,v)::Y))):
 (u.join v).Good∧(u.join v).First p1∧yg (u.join v).ents∧(∀e∈(u.join v).ents,¬e.pl.lt p1=true)∧(∀b∈Y,∀e∈(u.join v).ents,e.pl.lt b.1=true):=by
 obtain⟨m1,m2,m3,m4,m5,m6,m7⟩:=k.mid
 have k2:Kids ((X++[(p1,u)])++(p2,v)::Y):=by rw [List.append_assoc];exact k
 obtain⟨n1,n2,n3,n4,n5,n6,n7⟩:=k2.mid
 have gu:=k.good (p1,u) (by simp)
 have gv:=k.good (p2,v) (by simp)
 have hlt:∀e∈u.ents,e.pl.lt p2=true:=fun e he=>n3 e (by rw [zt];exact List.mem_append_right _ (by rw [zo];exact List.mem_append_left _ he))
 refine⟨dQ gu.1 gv.1 n5 hlt,Yg m5,?_,fun e he=>?_,fun b hb e he=>?_⟩
 ·rw [jq]
  rw [zt,zo,zo,←List.append_assoc u.ents] at hs
  exact(List.pairwise_append.1 (List.pairwise_append.1 hs).2.1).1
 ·rw [jq] at he
  refine m4 e ?_
  rw [zo,zo,←List.append_assoc]
  exact List.mem_append_left _ he
 ·rw [jq] at he
  rcases List.mem_append.1 he with he|he
  ·exact m6 b (List.mem_cons_of_mem _ hb) e (List.mem_append_right _ he)
  ·exact n6 b hb e (List.mem_append_right _ he)
theorem dR{h:Nat}{b b':Nat}{A B X Y Y':List (Pl×Tr h)}{q p1 p:Pl}{tc tc' u u':Tr h}(e:A++(q,tc')::B=X++(p1,u)::Y)(hf:Tr.First (h:=h+1) (b,A++(q,tc)::B) p):Tr.First (h:=h+1) (b',X++(p1,u')::Y') p:=by
 have h1:Tr.First (h:=h+1) (b,A++(q,tc')::B) p:=xw hf
 rw [e] at h1
 exact xw h1
structure XH {h:Nat} (A B:List (Pl×Tr h)) (q:Pl) (tc':Tr h) (X Y:List (Pl×Tr h)) (p1 p2:Pl) (u v:Tr h):Prop where
 eq:A++(q,tc')::B=X++(p1,u)::(p2,v)::Y
 at_:max A.length 1=X.length+1
 out:∀c,c∈X∨c∈Y→c∈A∨c∈B
 two:((p1,u)∈A∧(p2,v)=(q,tc'))∨((p2,v)∈B∧(p1,u)=(q,tc'))
theorem KM{h:Nat}(A B:List (Pl×Tr h))(q:Pl)(tc':Tr h)(h2:2≤(A++(q,tc')::B).length):∃X Y p1 p2 u v,XH A B q tc' X Y p1 p2 u v:=by
 rcases List.eq_nil_or_concat A with rfl|⟨X,⟨p1,u⟩,rfl⟩
 ·cases B with
  |nil=>simp at h2
  |cons b B=>exact⟨[],B,q,b.1,tc',b.2,rfl,by simp,fun c hc=>.inr (by rcases hc with hc|hc;cases hc;exact List.mem_cons_of_mem _ hc),.inr ⟨List.mem_cons_self ..,rfl⟩⟩
 ·refine⟨X,B,p1,q,u,tc',by simp,by simp,fun c hc=>hc.imp (fun h=>by simp [h]) id,.inl ⟨by simp,rfl⟩⟩
theorem Ke{h:Nat}{b:Nat}{A B X Y:List (Pl×Tr h)}{q p p1 p2:Pl}{tc tc' u v:Tr h}(g:Tr.Good (h:=h+1) (b,A++(q,tc)::B))(hl:(A++(q,tc)::B).length≤6)(hs:yg (zJ (A++(q,tc)::B)))(hq:A≠[]→¬p.lt q=true)(hB:∀b∈B,p.lt b.1=true)(k:fG tc p tc')
 (P:XH A B q tc' X Y p1 p2 u v) (h6:(u.items++v.items).length≤6):fG (h:=h+1) (b,A++(q,tc)::B) p (b,X++(p1,u.join v)::Y):=by
 obtain⟨h1,h2⟩:=kx g.kids hq hB k
 have hs':yg (zJ (A++(q,tc')::B)):=by rw [h2];exact hs.del
 have hf3:=g.full
 simp only at hf3
 have hlen:(A++(q,tc)::B).length=(X++(p1,u)::(p2,v)::Y).length:=by rw [←P.eq];simp
 have hff:=fun p hp=>dR (b':=b) (u':=u.join v) (Y':=Y) (p:=p) (b:=b) (tc:=tc) P.eq hp
 rw [P.eq] at h1 h2 hs'
 obtain⟨j1,j2,j3,j4,j5⟩:=h1.pair hs'
 have h3:3≤(u.items++v.items).length:=by
  rw [List.length_append]
  rcases P.two with⟨hm,_⟩|⟨hm,_⟩
  ·have:=hf3 _ (List.mem_append_left _ hm);simp only at this;omega
  ·have:=hf3 (p2,v) (by simp [hm]);simp only at this;omega
 have hk:=h1.less.swap j1 (by rw [yZ];exact h6) j2 j4 j5
 refine⟨rfl,hk.node (fun c hc=>?_) g.1,?_,?_,?_,hff⟩
 ·rcases List.mem_append.1 hc with hc|hc
  ·rcases P.out c (.inl hc) with hc|hc
   ·exact hf3 c (List.mem_append_left _ hc)
   ·exact hf3 c (by simp [hc])
  ·rcases List.mem_cons.1 hc with rfl|hc
   ·show 3≤(u.join v).items.length
    rw [yZ];exact h3
   ·rcases P.out c (.inr hc) with hc|hc
    ·exact hf3 c (List.mem_append_left _ hc)
    ·exact hf3 c (by simp [hc])
 ·rw [zs,zs,hlen];simp;omega
 ·rw [zs];simp at hlen hl ⊢;omega
 ·show zJ (X++(p1,u.join v)::Y)=qO p (zJ (A++(q,tc)::B))
  rw [←h2,zt,zo,zt,zo,zo,jq,List.append_assoc]
theorem Kf{h:Nat}{b:Nat}{A B X Y:List (Pl×Tr h)}{q p p1 p2:Pl}{tc tc' u v:Tr h}(g:Tr.Good (h:=h+1) (b,A++(q,tc)::B))(hl:(A++(q,tc)::B).length≤6)(hs:yg (zJ (A++(q,tc)::B)))(hq:A≠[]→¬p.lt q=true)(hB:∀b∈B,p.lt b.1=true)(k:fG tc p tc')
 (P:XH A B q tc' X Y p1 p2 u v) (h6:6<(u.items++v.items).length) (d:En) (m:Nat) (hm:m=(u.items++v.items).length/2):fG (h:=h+1) (b,A++(q,tc)::B) p (b,X++(p1,(u.join v).cutL m)::(((u.items++v.items).getD m d).pl,(u.join v).cutR m v.blk)::Y):=by
 obtain⟨h1,h2⟩:=kx g.kids hq hB k
 have hs':yg (zJ (A++(q,tc')::B)):=by rw [h2];exact hs.del
 have hf3:=g.full
 simp only at hf3
 have hlen:(A++(q,tc)::B).length=(X++(p1,u)::(p2,v)::Y).length:=by rw [←P.eq];simp
 rw [←yZ] at hm h6 ⊢
 have hff:=fun p hp=>dR (b':=b) (u':=(u.join v).cutL m) (Y':=(((u.join v).items.getD m d).pl,(u.join v).cutR m v.blk)::Y) (p:=p) (b:=b) (tc:=tc) P.eq hp
 rw [P.eq] at h1 h2 hs'
 obtain⟨j1,j2,j3,j4,j5⟩:=h1.pair hs'
 have gu:=(h1.good (p1,u) (by simp)).2.1
 have gv:=h1.good (p2,v) (by simp)
 have h12:(u.join v).items.length≤12:=by rw [yZ,List.length_append];simp only at gu gv;omega
 obtain⟨c1,c2⟩:=Kc m v.blk gv.1.blk j1
 obtain⟨d1,d2,d3,d4⟩:=Kd (m:=m) (b:=v.blk) d j1 j3 (by omega)
 obtain⟨i1,i2⟩:=dP m v.blk (u.join v)
 have hce:=Kb m v.blk (u.join v)
 have lL:((u.join v).cutL m).items.length=m:=by rw [i1,List.length_take];omega
 have lR:((u.join v).cutR m v.blk).items.length=(u.join v).items.length-m:=by rw [i2,List.length_drop]
 obtain⟨x,hx⟩:=c1.some_ent (by omega)
 obtain⟨y,hy⟩:=c2.some_ent (by omega)
 have hL:∀e∈((u.join v).cutL m).ents,e∈(u.join v).ents:=fun e he=>by rw [←hce];exact List.mem_append_left _ he
 have hR:∀e∈((u.join v).cutR m v.blk).ents,e∈(u.join v).ents:=fun e he=>by rw [←hce];exact List.mem_append_right _ he
 have hk:=h1.less.parted c1 c2 (by omega) (by omega) d2 (XF (by omega) j2) d1 (Pl.lt_of_not (j4 x (hL x hx)) (d3 x hx)) d3 d4 (fun e he=>j4 e (hL e he)) (fun b hb e he=>j5 b hb e (hR e he)) (fun b hb=>Pl.lt_of_not (d4 y hy) (j5 b hb y (hR y hy)))
 refine⟨rfl,hk.node (fun c hc=>?_) g.1,?_,?_,?_,hff⟩
 ·rcases List.mem_append.1 hc with hc|hc
  ·rcases P.out c (.inl hc) with hc|hc
   ·exact hf3 c (List.mem_append_left _ hc)
   ·exact hf3 c (by simp [hc])
  ·rcases List.mem_cons.1 hc with rfl|hc
   ·show 3≤((u.join v).cutL m).items.length;omega
   ·rcases List.mem_cons.1 hc with rfl|hc
    ·show 3≤((u.join v).cutR m v.blk).items.length;omega
    ·rcases P.out c (.inr hc) with hc|hc
     ·exact hf3 c (List.mem_append_left _ hc)
     ·exact hf3 c (by simp [hc])
 ·rw [zs,zs,hlen];simp
 ·rw [zs];simp at hlen hl ⊢;omega
 ·show zJ (X++(p1,(u.join v).cutL m)::(((u.join v).items.getD m d).pl,(u.join v).cutR m v.blk)::Y)=qO p (zJ (A++(q,tc)::B))
  rw [←h2,zt,zo,zo,zt,zo,zo,←List.append_assoc (Tr.ents _),hce,jq,List.append_assoc]
end prog
namespace prog
open Go.RowKit disk ref
theorem dS(C:Ck)(D:Dk)(i:Int):C.look D i=match C.ws.find? (fun p=>decide ((p.1:Int)=i)) with
 |some p=>p.2
 |none=>D.look i:=by
 cases h:qH C.ws i with
 |none=>
  rw [jk h]
  unfold qH at h
  rw [List.findIdx?_eq_none_iff] at h
  rw [List.find?_eq_none.2 (fun x hx=>by rw [h x hx];simp)]
 |some k=>
  obtain⟨hk,h1,h2⟩:=yR (D:=D) h
  unfold qH at h
  rw [List.findIdx?_eq_some_iff_getElem] at h
  obtain⟨_,h3,h4⟩:=h
  have:C.ws.find? (fun p=>decide ((p.1:Int)=i))=some C.ws[k]:=List.find?_eq_some_iff_getElem.2 ⟨h3,k,hk,rfl,fun j hj=>by simpa using h4 j hj⟩
  rw [this,h1]
theorem ZS(C:Ck)(D:Dk)(i j:Int)(h:j≠i):Ck.look {C with ws:=vg C.ws i} D j=C.look D j:=by
 rw [dS,dS]
 show (match (vg C.ws i).find? _ with|some p=>p.2|none=>D.look j)=_
 unfold vg
 rw [List.find?_filter]
 have e:(fun a:Nat×List Value=>decide ((!decide ((a.1:Int)=i))=true∧decide ((a.1:Int)=j)=true))=fun a=>decide ((a.1:Int)=j):=by
  funext a
  by_cases h1:(a.1:Int)=j
  ·have h2:¬(a.1:Int)=i:=by omega
   simp [h1,h]
  ·simp [h1]
 rw [e]
theorem uw(C:Ck)(D:Dk)(m:List UInt8)(i j:Nat)(h2:j≠2)(hi:j≠i+21):(C.free m i).look D (j:Nat)=C.look D (j:Nat):=by
 unfold Ck.free
 rw [ZS _ _ _ _ (by omega),zW _ _ _ _ _ (by omega)]
theorem Kg(C:Ck)(D:Dk)(m:List UInt8)(i:Nat):(C.free m i).look D 2=zl (zL (xH m i)):=by
 unfold Ck.free
 rw [ZS _ _ _ _ (by omega)]
 exact qg C D 2 _
theorem ux(C:Ck)(m:List UInt8)(i:Nat):List.Sublist (C.free m i).keys (C.put 2 (zl (zL (xH m i)))).keys:=by
 unfold Ck.free Ck.keys
 exact List.Sublist.map _ List.filter_sublist
theorem fH(C:Ck)(m:List UInt8)(i:Nat):(C.free m i).ws.length≤C.ws.length+1:=by
 rw [←Ck.keys_len,←Ck.keys_len]
 refine Nat.le_trans (ux C m i).length_le ?_
 rw [Ck.keys_len,Ck.keys_len]
 exact qq _ _ _
structure fI (D:Dk) (C:Ck) (m:List UInt8):Prop where
 map:qn (C.look D 2) m
 full:C.full=false
 nodup:C.keys.Nodup
structure vS (D:Dk) (C C':Ck) (m m':List UInt8) (pb fb:List Nat):Prop where
 taken:∀i,zO m' i=(zO m i&&decide (i+21∉fb))
 look:∀j:Nat,j∉pb→j∉fb→j≠2→C'.look D j=C.look D j
 keys:∀k∈C'.keys,k∈C.keys∨k∈pb∨k=2
theorem vS.refl(D:Dk)(C:Ck)(m:List UInt8):vS D C C m m [] []:=⟨fun i=>by simp,fun _ _ _ _=>rfl,fun _ h=>.inl h⟩
theorem vS.trans{D:Dk}{C C1 C2:Ck}{m m1 m2:List UInt8}{p1 p2 f1 f2:List Nat}(h:vS D C C1 m m1 p1 f1)(k:vS D C1 C2 m1 m2 p2 f2):vS D C C2 m m2 (p1++p2) (f1++f2) where
 taken:=fun i=>by
  rw [k.taken,h.taken,Bool.and_assoc]
  congr 1
  simp [List.mem_append,not_or]
 look:=fun j h1 h2 h3=>by
  rw [List.mem_append,not_or] at h1 h2
  rw [k.look j h1.2 h2.2 h3,h.look j h1.1 h2.1 h3]
 keys:=fun x hx=>by
  simp only [List.mem_append]
  rcases k.keys x hx with hx|hx|hx
  ·rcases h.keys x hx with hx|hx|hx
   ·exact .inl hx
   ·exact .inr (.inl (.inl hx))
   ·exact .inr (.inr hx)
  ·exact .inr (.inl (.inr hx))
  ·exact .inr (.inr hx)
theorem vS.put(D:Dk)(C:Ck)(m:List UInt8)(i:Nat)(b:List Value):vS D C (C.put i b) m m [i] [] where
 taken:=fun i=>by simp
 look:=fun j h1 _ _=>zW C D i b j (fun e=>h1 (by rw [List.mem_singleton];omega))
 keys:=fun k hk=>((yI C i b k).1 hk).elim .inl (fun e=>.inr (.inl (by rw [e];simp)))
theorem fI.put{D:Dk}{C:Ck}{m:List UInt8}(h:fI D C m){i:Nat}(hi:i≠2)(b:List Value):fI D (C.put i b) m:=
 ⟨h.map.put i b hi,by rw [qz];exact h.full,yt h.nodup i b⟩
theorem vS.free{D:Dk}{C:Ck}{m:List UInt8}(h:fI D C m){i:Nat}(hi:i<979):vS D C (C.free m i) m (xH m i) [] [i+21] where
 taken:=fun j=>by
  rw [Xn (by rw [h.map.len];omega)]
  congr 1
  simp
 look:=fun j _ h1 h2=>uw C D m i j h2 (by simpa using h1)
 keys:=fun k hk=>by
  rcases (yI C 2 _ k).1 ((ux C m i).subset hk) with h1|h1
  ·exact .inl h1
  ·exact .inr (.inr h1)
theorem fI.free{D:Dk}{C:Ck}{m:List UInt8}(h:fI D C m)(i:Nat):fI D (C.free m i) (xH m i):=
 ⟨⟨by rw [JC];exact h.map.len,.inl (Kg C D m i)⟩,by show (C.put 2 _).full=false;rw [qz];exact h.full,(ux C m i).nodup (yt h.nodup _ _)⟩
theorem vS.sub{D:Dk}{C C':Ck}{m m':List UInt8}{pb pb' fb:List Nat}(h:vS D C C' m m' pb fb)(hs:∀j∈pb,j∈pb'∨j∈fb)(hk:∀k∈C'.keys,k∈pb→k∈pb'):vS D C C' m m' pb' fb where
 taken:=h.taken
 look:=fun j h1 h2 h3=>h.look j (fun hp=>(hs j hp).elim h1 h2) h2 h3
 keys:=fun k hk'=>(h.keys k hk').imp id (fun h1=>h1.imp (hk k hk') id)
end prog
namespace prog
open ref
theorem ZT{β:Type}{pg:Pg→β}{rd rd':Nat→β}:∀{h:Nat} {u v:Tr h},u.LayV pg rd→v.LayV pg rd→(u.blocks++v.blocks).Nodup→rd' u.blk=pg (za (zN h) (u.items++v.items))→(∀j∈u.blocks++v.blocks,j≠u.blk→j≠v.blk→rd' j=rd j)→(u.join v).LayV pg rd'
 |0,u,v,_,_,_,hb,_=>hb
 |h+1,u,v,lu,lv,hn,hb,e=>by
  have hn':(u.1::zA u.2++v.1::zA v.2).Nodup:=hn
  rw [List.nodup_append,List.nodup_cons,List.nodup_cons] at hn'
  obtain⟨⟨h1,_⟩,⟨h2,_⟩,h3⟩:=hn'
  refine⟨?_,fun c hc=>?_⟩
  ·rw [yZ];exact hb
  ·have hc':c∈u.2++v.2:=hc
   rcases List.mem_append.1 hc' with hc|hc
   ·refine(lu.2 c hc).congr (fun j hj=>?_)
    have hm:=zU hc hj
    exact e j (List.mem_append_left _ (List.mem_cons_of_mem _ hm)) (fun e0=>h1 (by rw [show j=u.1 from e0] at hm;exact hm)) (fun e0=>h3 j (List.mem_cons_of_mem _ hm) v.1 (List.mem_cons_self ..) e0)
   ·refine(lv.2 c hc).congr (fun j hj=>?_)
    have hm:=zU hc hj
    exact e j (List.mem_append_right _ (List.mem_cons_of_mem _ hm)) (fun e0=>h3 u.1 (List.mem_cons_self ..) j (List.mem_cons_of_mem _ hm) e0.symm) (fun e0=>h2 (by rw [show j=v.1 from e0] at hm;exact hm))
theorem KN{β:Type}{pg:Pg→β}{rd:Nat→β}(m b:Nat):∀{h:Nat} {u:Tr h},(∀(rd':Nat→β),rd' u.blk=pg (za (zN h) u.items)→(∀j,j≠u.blk→rd' j=rd j)→u.LayV pg rd')→u.blk∉u.blocks.tail→rd u.blk=pg (za (zN h) (u.items.take m))→rd b=pg (za (zN h) (u.items.drop m))→(u.cutL m).LayV pg rd∧(u.cutR m b).LayV pg rd
 |0,u,_,_,h1,h2=>⟨h1,h2⟩
 |h+1,u,l,hn,h1,h2=>by
  have l1:=l (fun j=>if j=u.blk then pg (za 4 u.items) else rd j) (by simp [zN]) (fun j hj=>if_neg hj)
  have hk:∀c∈u.2,c.2.LayV pg rd:=fun c hc=>(l1.2 c hc).congr (fun j hj=>(if_neg (fun e=>hn (by
   have:j∈zA u.2:=zU hc hj
   rw [e] at this;exact this))).symm)
  obtain⟨i1,i2⟩:=dP m b u
  exact⟨⟨by rw [i1];exact h1,fun c hc=>hk c (List.mem_of_mem_take hc)⟩,⟨by rw [i2];exact h2,fun c hc=>hk c (List.mem_of_mem_drop hc)⟩⟩
theorem x7{h:Nat}{b:Nat}{A B:List (Pl×Tr h)}{q:Pl}{tc tc':Tr h}{fb:List Nat}(hp:(tc'.blocks++fb).Perm tc.blocks):
 (Tr.blocks (h:=h+1) (b,A++(q,tc')::B)++fb).Perm (Tr.blocks (h:=h+1) (b,A++(q,tc)::B)):=by
 show (b::zA (A++(q,tc')::B)++fb).Perm (b::zA (A++(q,tc)::B))
 rw [List.perm_iff_count] at hp ⊢
 intro a
 have:=hp a
 simp only [ql,qt,List.cons_append,List.count_append,List.count_cons] at this ⊢
 omega
theorem u9{h:Nat}{b:Nat}{A B X Y:List (Pl×Tr h)}{q p1 p2:Pl}{tc tc' u v:Tr h}{fb:List Nat}(hp:(tc'.blocks++fb).Perm tc.blocks)(P:XH A B q tc' X Y p1 p2 u v):
 (Tr.blocks (h:=h+1) (b,X++(p1,u.join v)::Y)++(fb++[v.blk])).Perm (Tr.blocks (h:=h+1) (b,A++(q,tc)::B)):=by
 refine List.Perm.trans ?_ (x7 hp)
 show (b::zA (X++(p1,u.join v)::Y)++(fb++[v.blk])).Perm (b::zA (A++(q,tc')::B)++fb)
 have hj:=jW u v
 rw [P.eq]
 rw [List.perm_iff_count] at hj ⊢
 intro a
 have:=hj a
 simp only [ql,qt,List.cons_append,List.count_append,List.count_cons,List.count_nil] at this ⊢
 omega
theorem gc{h:Nat}{b:Nat}{A B X Y:List (Pl×Tr h)}{q p1 p2 q':Pl}{tc tc' u v:Tr h}{fb:List Nat}(m:Nat)(hp:(tc'.blocks++fb).Perm tc.blocks)(P:XH A B q tc' X Y p1 p2 u v):
 (Tr.blocks (h:=h+1) (b,X++(p1,(u.join v).cutL m)::(q',(u.join v).cutR m v.blk)::Y)++fb).Perm (Tr.blocks (h:=h+1) (b,A++(q,tc)::B)):=by
 refine List.Perm.trans ?_ (x7 hp)
 show (b::zA (X++(p1,(u.join v).cutL m)::(q',(u.join v).cutR m v.blk)::Y)++fb).Perm (b::zA (A++(q,tc')::B)++fb)
 have hj:=jW u v
 have hc:=Yf m v.blk (u.join v)
 rw [P.eq]
 rw [List.perm_iff_count] at hj hc ⊢
 intro a
 have:=hj a
 have:=hc a
 simp only [ql,qt,List.cons_append,List.count_append,List.count_cons,List.count_nil] at*
 omega
def xN{h:Nat}(c:Pl×Tr h):En:=⟨c.1,false,0,c.2.blk⟩
theorem Yh{h:Nat}{A B X Y:List (Pl×Tr h)}{q p1 p2:Pl}{tc tc' u v:Tr h}(hb:tc'.blk=tc.blk)(P:XH A B q tc' X Y p1 p2 u v):
 (A++(q,tc)::B).map xN=X.map xN++xN (p1,u)::xN (p2,v)::Y.map xN:=by
 have h1:(A++(q,tc)::B).map xN=(A++(q,tc')::B).map xN:=by simp [xN,hb]
 rw [h1,P.eq]
 simp
theorem KO{X Y:List En}{x y z:En}{r:Nat}(hr:r=X.length+1)(es:List En)(he:es=X++x::y::Y):r<es.length∧(∀(h:r-1<es.length),es[r-1]=x)∧(∀(h:r<es.length),es[r]=y)∧es.eraseIdx r=X++x::Y∧es.set r z=X++x::z::Y:=by
 subst hr he
 refine⟨by simp,fun h=>by simp,fun h=>?_,?_,?_⟩
 ·simp [List.getElem_append_right]
 ·rw [List.eraseIdx_append_of_length_le (by omega)];simp
 ·rw [List.set_append_right _ _ (by omega)];simp
end prog
end Go.Proofs.YtcoengihaobddaaGreatDoor

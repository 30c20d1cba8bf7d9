/- Part 20 of 34 of a proof: Ins8, Tr3, Tr4 -/
import Derived.Test.YtcoengihaobddaaGreatDoorJk19
set_option maxHeartbeats 8000000
set_option linter.unusedVariables false
set_option linter.unusedSimpArgs false
set_option maxRecDepth 8000
namespace Go.Proofs.YtcoengihaobddaaGreatDoor
namespace prog
open Go.ChangeShapes Go.WideShapes Go.ChangeAt Go.RowKit disk ref
open keys (ze zd zr zn)
theorem QN(w:World)(bc bd:Nat)(S T:Nat→Prop)(D:Dk)(C:Ck)(h:Cw w bc bd S T D C)(m:List UInt8)(hm:qn (C.look D 2) m)(hr0:0≤D.reads)(M:Nat)(hM:M≤1000)(hr1:D.reads≤4611686018427380000)(at_:Nat)(hat:at_<65536)(es:List En)(hes:∀e∈es,e.Ok)(h4:∀e∈es,e.mark=false∧e.size=0)(hlen:es.length≤6)(hs:yg es)(hl:C.look D at_=zl (za 4 es))(e:En)(he:e.Ok)(hfew:C.ws.length<700)(C1:Ck)(m1:List UInt8)(hm1:qn (C1.look D 2) m1)(hfew1:C1.ws.length<700)(c:Nat)(hc:zw es e.pl=c)(hcl:c<es.length)(e1:En)(he1:e1.Ok)(hrec:Below bc bd S T D C es[c].at_ e M true (qp e1) C1)(es':List En)(hes':es.take (c+1)++e1::es.drop (c+1)=es')(f:Bool)(v:List Value)(C':Ck)(m':List UInt8)(hmo:C1.more D.bs.length m1 at_ 4 es'=(f,v,C',m')):
 Calls Tryz.prog 137 #[.pointer (some ⟨bc,0,none⟩),.int .i64 at_,.agg (qp e).toArray] w fun r w'=>r=.returned (.tuple #[.agg v.toArray,.bool f])∧(∃(n:Int) (T':Nat→Prop),0≤n∧n≤M+2∧Cw w' bc bd S T' {D with reads:=D.reads+n} C'∧∀j,T' j→T j∨w.heap.size≤j)∧Kept (fun j=>j=bd∨T j) w w':=by
 have HM1:Hid (qn (C1.look D 2) m1):=hm1
 have HE1:Hid e1.Ok:=he1
 have HE':Hid (es.take (c+1)++e1::es.drop (c+1)=es'):=hes'
 have HMO:Hid (C1.more D.bs.length m1 at_ 4 es'=(f,v,C',m')):=hmo
 have hlen':es'.length=es.length+1:=by rw [←hes'];simp only [List.length_append,List.length_take,List.length_cons,List.length_drop];omega
 have HES':Hid (∀x∈es',x.Ok):=fun x hx=>by
  rw [←hes'] at hx
  rcases List.mem_append.1 hx with hx|hx
  ·exact hes x (List.mem_of_mem_take hx)
  ·rcases List.mem_cons.1 hx with rfl|hx
   ·exact he1
   ·exact hes x (List.mem_of_mem_drop hx)
 clear hm1 he1 hes' hmo
 have HH:Hid _:=h
 have HM:Hid _:=hm
 have H4:Hid (∀e∈es,e.mark=false∧e.size=0):=h4
 have HREC:Hid _:=hrec
 have HES:Hid (∀e∈es,e.Ok):=hes
 have HS:Hid (yg es):=hs
 have HL:Hid _:=hl
 have HE:Hid e.Ok:=he
 clear h hm hes hs hl he h4 hrec
 have hbd:bd<w.heap.size:=HH.out.disk.lt bd HH.out.disk.bdS
 have HTL:Hid (∀j,T j→j<w.heap.size):=HH.out.chg.lt
 have HSL:Hid (∀j,S j→j<w.heap.size):=HH.out.disk.lt
 have HK0:Hid (Kept (fun _=>False) w ((w.alloc (.cells (qp e).toArray 109)).alloc (.cells qo.toArray 109))):=Kept.alloc2 _ _ _
 have HBr:Hid (((w.alloc (.cells (qp e).toArray 109)).alloc (.cells qo.toArray 109)).heap[w.heap.size+1]? =some (.cells qo.toArray 109 (0,0))):=heap_alloc2_new w _ _
 have HBe:Hid (((w.alloc (.cells (qp e).toArray 109)).alloc (.cells qo.toArray 109)).heap[w.heap.size]? =some (.cells (qp e).toArray 109 (0,0))):=((Kept.alloc (fun _=>False) _ _).block w.heap.size (by simp) id).trans (heap_alloc_new w _)
 have hsW:((w.alloc (.cells (qp e).toArray 109)).alloc (.cells qo.toArray 109)).heap.size=w.heap.size+2:=by simp
 unfold qo at HK0 HBr HBe hsW
 unfold qp at HK0 HBr HBe hsW ⊢
 go_enter Tryz.func137,Tryz.ntmps137
 go_wp2_with fail
 change Hid (Kept _ w ((w.alloc (.cells #[.string e.pl.key,.int .i64 e.pl.num,.bool e.mark,.int .i64 (e.size:Int),.int .i64 (e.at_:Int)] 109)).alloc (.cells #[.string ⟨#[]⟩,.int .i64 0,.bool false,.int .i64 0,.int .i64 0] 109))) at HK0
 generalize ((w.alloc (.cells #[.string e.pl.key,.int .i64 e.pl.num,.bool e.mark,.int .i64 (e.size:Int),.int .i64 (e.at_:Int)] 109)).alloc (.cells #[.string ⟨#[]⟩,.int .i64 0,.bool false,.int .i64 0,.int .i64 0] 109))=W at*
 refine(yf W bc bd S T D C (HH.out.kept0 HK0.out) hr0 (by omega) at_ hat 4 es (.inl rfl) HES.out (fun _=>H4.out) hlen HL.out).mono ?_
 rintro r w1 ⟨a,cap,rfl,⟨n1,hn0,hn1,hc1⟩,hk1,hrow1,hown1,hfr1⟩
 have HC1:Hid _:=hc1
 have HK1:Hid (Kept (fun j=>j=bd) W w1):=hk1
 have HO1:Hid (w1.ownsRow 0 109 5 (.slice a es.length cap) es.length (zf es)):=hown1
 have HF1:Hid _:=hfr1
 have HRW1:Hid _:=hrow1
 have hsz1:=hk1.size
 have HBe1:Hid (w1.heap[w.heap.size]? =_):=(hk1.block _ (by omega) (by omega)).trans HBe.out
 have HBr1:Hid (w1.heap[w.heap.size+1]? =_):=(hk1.block _ (by omega) (by omega)).trans HBr.out
 clear hc1 hk1 hown1 hfr1 hrow1
 have x0:w1.cell? ⟨w.heap.size,0,none⟩=some (.string e.pl.key):=cR HBe1.out rfl
 have x1:w1.cell? ⟨w.heap.size,1,none⟩=some (.int .i64 e.pl.num):=cR HBe1.out rfl
 have hlw1:w.heap.size<w1.heap.size:=by omega
 have hlo1:∀j,(Value.slice a es.length cap).ownBlock=some j→W.heap.size≤j∧j<w1.heap.size:=fun j hj=>⟨HF1.out j hj,(HO1.out.lt j hj).2⟩
 have HLO:Hid (∀j,(Value.slice a es.length cap).ownBlock=some j→W.heap.size≤j∧j<w1.heap.size):=hlo1
 clear hlo1
 go_wp2_with fail
 have HKN:Hid (Kept (fun _=>False) w1 (w1.alloc (.cells #[.int .u8 4,.slice a es.length cap] 209))):=Kept.alloc _ _ _
 have HBN:Hid ((w1.alloc (.cells #[.int .u8 4,.slice a es.length cap] 209)).heap[w1.heap.size]? =some (.cells #[.int .u8 4,.slice a es.length cap] 209 (0,0))):=heap_alloc_new w1 _
 have hsN:(w1.alloc (.cells #[.int .u8 4,.slice a es.length cap] 209)).heap.size=w1.heap.size+1:=by simp
 generalize (w1.alloc (.cells #[.int .u8 4,.slice a es.length cap] 209))=WN at*
 refine(xC WN _ a cap es (HRW1.out.kept HKN.out nF) HS.out 4 e.pl).mono ?_
 rintro r w2 ⟨rfl,hk2⟩
 have HK2:Hid (Kept (fun _=>False) w1 w2):=HKN.out.trans hk2 iL
 have hsz2:=hk2.size
 have HBN2:Hid (w2.heap[w1.heap.size]? =_):=(hk2.block _ (by omega) id).trans HBN.out
 clear hk2
 have HBe2:Hid (w2.heap[w.heap.size]? =_):=(HK2.out.block _ (by omega) id).trans HBe1.out
 have HBr2:Hid (w2.heap[w.heap.size+1]? =_):=(HK2.out.block _ (by omega) id).trans HBr1.out
 have y0:w2.cell? ⟨w.heap.size,0,none⟩=some (.string e.pl.key):=cR HBe2.out rfl
 have y1:w2.cell? ⟨w.heap.size,1,none⟩=some (.int .i64 e.pl.num):=cR HBe2.out rfl
 have y2:w2.cell? ⟨w.heap.size,2,none⟩=some (.bool e.mark):=cR HBe2.out rfl
 have y3:w2.cell? ⟨w.heap.size,3,none⟩=some (.int .i64 (e.size:Int)):=cR HBe2.out rfl
 have y4:w2.cell? ⟨w.heap.size,4,none⟩=some (.int .i64 (e.at_:Int)):=cR HBe2.out rfl
 have z0:w2.cell? ⟨w1.heap.size,0,none⟩=some (.int .u8 4):=cR HBN2.out rfl
 have z1:w2.cell? ⟨w1.heap.size,1,none⟩=some (.slice a es.length cap):=cR HBN2.out rfl
 have HCI:Hid (zw es e.pl=c):=hc
 generalize zm es e.pl=i at*
 clear hc
 go_wp2_with fail
 refine(j8 w2 _ a cap es (HRW1.out.kept HK2.out nF) HS.out 4 e.pl).mono ?_
 rintro r w3 ⟨rfl,hk3⟩
 rw [HCI.out]
 have HK3:Hid (Kept (fun _=>False) w1 w3):=HK2.out.trans hk3 iL
 have hsz3:=hk3.size
 have HBN3:Hid (w3.heap[w1.heap.size]? =_):=(hk3.block _ (by omega) id).trans HBN2.out
 have HBe3:Hid (w3.heap[w.heap.size]? =_):=(hk3.block _ (by omega) id).trans HBe2.out
 have HBr3:Hid (w3.heap[w.heap.size+1]? =_):=(hk3.block _ (by omega) id).trans HBr2.out
 have HR3:Hid (zH w3 (fun b=>W.heap.size≤b) a es):=HRW1.out.kept HK3.out nF
 have HO3:Hid (w3.ownsRow 0 109 5 (.slice a es.length cap) es.length (zf es)):=HK3.out.owns HO1.out nF
 have HCW3:Hid (Cw w3.drew bc bd S T {D with reads:=D.reads+n1} C):=(HC1.out.kept0 HK3.out).kept0 (Kept.drew _ w3)
 have HKW3:Hid (Kept (fun j=>j=bd∨T j) w w3):=((HK0.out.mono fE).trans HK1.out (fun _ h=>.inl (.inl h))).trans HK3.out fE
 clear hk3 y0 y1 y2 y3 y4 z0 z1 x0 x1
 obtain⟨g,o,rfl⟩:=HR3.out.base (by omega)
 obtain⟨-, -, -, -, ec, -, hgl⟩:=HR3.out.cells c hcl
 have hgW:W.heap.size≤g∧g<w1.heap.size:=HLO.out g rfl
 have HBL:Hid (∀w0:World,Cw w0 bc bd S T {D with reads:=D.reads+n1} C→_):=fun w0 hw0=>HREC.out.go w0 n1 hn0 hn1 hw0
 generalize es[c].at_=ca at*
 have y0:w3.cell? ⟨w.heap.size,0,none⟩=some (.string e.pl.key):=cR HBe3.out rfl
 have y1:w3.cell? ⟨w.heap.size,1,none⟩=some (.int .i64 e.pl.num):=cR HBe3.out rfl
 have y2:w3.cell? ⟨w.heap.size,2,none⟩=some (.bool e.mark):=cR HBe3.out rfl
 have y3:w3.cell? ⟨w.heap.size,3,none⟩=some (.int .i64 (e.size:Int)):=cR HBe3.out rfl
 have y4:w3.cell? ⟨w.heap.size,4,none⟩=some (.int .i64 (e.at_:Int)):=cR HBe3.out rfl
 have z1:w3.cell? ⟨w1.heap.size,1,none⟩=some (.slice (some ⟨g,o,none⟩) es.length cap):=cR HBN3.out rfl
 have hclI:(c:Int)<(es.length:Int):=by omega
 have hnd:∀j,w.heap.size≤j→¬(j=bd∨T j):=fun j hj hc=>hc.elim (fun h=>by omega) (fun h=>by have:=HTL.out j h;omega)
 have HND:Hid (∀j,w.heap.size≤j→¬(j=bd∨T j)):=hnd
 clear hnd
 unfold qp at HBL
 have ne1:¬w1.heap.size=w3.heap.size:=by omega
 have ne2:¬g=w3.heap.size:=by omega
 have ne3:¬w.heap.size=w3.heap.size:=by omega
 have ne1':¬w3.heap.size=w1.heap.size:=by omega
 have ne2':¬w3.heap.size=g:=by omega
 have ne3':¬w3.heap.size=w.heap.size:=by omega
 have HKXHCW3:Hid (Kept (fun _=>False) w3 w3.drew):=Kept.drew _ w3
 have HKXHCW3a:Hid (Kept (fun _=>False) w3 (w3.alloc (.cells #[.string ⟨#[]⟩,.int .i64 0,.bool false,.int .i64 0,.int .i64 0] 109)).drew):=(Kept.alloc _ _ _).trans (Kept.drew _ _) iL
 have HCW3a:Hid (Cw (w3.alloc (.cells #[.string ⟨#[]⟩,.int .i64 0,.bool false,.int .i64 0,.int .i64 0] 109)).drew bc bd S T {D with reads:=D.reads+n1} C):=(HC1.out.kept0 HK3.out).kept0 HKXHCW3a.out
 have hsX:(w3.alloc (.cells #[.string ⟨#[]⟩,.int .i64 0,.bool false,.int .i64 0,.int .i64 0] 109)).heap.size=w3.heap.size+1:=by simp
 go_wp2_with fail
 go_region_held3 (fun w'=>w'.cell? ⟨w1.heap.size,1,none⟩=some (.slice (some ⟨g,o,none⟩) es.length cap)∧w'.cell? ⟨g,o+c*5+4,none⟩=some (.int .i64 (ca:Int))∧w'.cell? ⟨w.heap.size,0,none⟩=some (.string e.pl.key)∧w'.cell? ⟨w.heap.size,1,none⟩=some (.int .i64 e.pl.num)∧w'.cell? ⟨w.heap.size,2,none⟩=some (.bool e.mark)∧w'.cell? ⟨w.heap.size,3,none⟩=some (.int .i64 (e.size:Int))∧w'.cell? ⟨w.heap.size,4,none⟩=some (.int .i64 (e.at_:Int))) (go_keep) ((go_at_call 137;first
  |(refine(HBL.out _ (by exact HCW3.out)).mono ?_;rintro r w4 ⟨rfl,⟨n4,T4,hn40,hn4M,hc4,hT4⟩,hk4⟩;have HC4:Hid _:=hc4;have HT4:Hid (∀j,T4 j→T j∨w3.drew.heap.size≤j):=hT4;have HK4:Hid (Kept (fun j=>j=bd∨T j) w3.drew w4):=hk4;have HK34:Hid (Kept (fun j=>j=bd∨T j) w3 w4):=(HKXHCW3.out.mono fE).trans hk4 iL;have HBN4:Hid (w4.heap[w1.heap.size]? =_):=(HK34.out.block _ (show w1.heap.size<w3.heap.size by omega) (HND.out _ (by omega))).trans HBN3.out;have HBe4:Hid (w4.heap[w.heap.size]? =_):=(HK34.out.block _ (show w.heap.size<w3.heap.size by omega) (HND.out _ (by omega))).trans HBe3.out;have HBr4:Hid (w4.heap[w.heap.size+1]? =_):=(HK34.out.block _ (show w.heap.size+1<w3.heap.size by omega) (HND.out _ (by omega))).trans HBr3.out;have z41:w4.cell? ⟨w1.heap.size,1,none⟩=some (.slice (some ⟨g,o,none⟩) es.length cap):=(cR HBN4.out rfl);have ec4:w4.cell? ⟨g,o+c*5+4,none⟩=some (.int .i64 (ca:Int)):=(HK34.out.cell (a:=⟨g,o+c*5+4,none⟩) (show g<w3.heap.size by omega) (HND.out g (by omega))).trans ec;have y40:w4.cell? ⟨w.heap.size,0,none⟩=some (.string e.pl.key):=(cR HBe4.out rfl);have y41:w4.cell? ⟨w.heap.size,1,none⟩=some (.int .i64 e.pl.num):=(cR HBe4.out rfl);have y42:w4.cell? ⟨w.heap.size,2,none⟩=some (.bool e.mark):=(cR HBe4.out rfl);have y43:w4.cell? ⟨w.heap.size,3,none⟩=some (.int .i64 (e.size:Int)):=(cR HBe4.out rfl);have y44:w4.cell? ⟨w.heap.size,4,none⟩=some (.int .i64 (e.at_:Int)):=(cR HBe4.out rfl);have hsz4:w3.heap.size≤w4.heap.size:=HK34.out.size;have ne4:¬w1.heap.size=w4.heap.size:=(by omega);have ne5:¬g=w4.heap.size:=(by omega);have ne6:¬w.heap.size=w4.heap.size:=(by omega);clear hc4 hT4 hk4)
  |(refine(HBL.out _ (by exact HCW3a.out)).mono ?_;rintro r w4 ⟨rfl,⟨n4,T4,hn40,hn4M,hc4,hT4⟩,hk4⟩;have HC4:Hid _:=hc4;have HT4:Hid (∀j,T4 j→T j∨(w3.alloc (.cells #[.string ⟨#[]⟩,.int .i64 0,.bool false,.int .i64 0,.int .i64 0] 109)).drew.heap.size≤j):=hT4;have HK4:Hid (Kept (fun j=>j=bd∨T j) (w3.alloc (.cells #[.string ⟨#[]⟩,.int .i64 0,.bool false,.int .i64 0,.int .i64 0] 109)).drew w4):=hk4;have HK34:Hid (Kept (fun j=>j=bd∨T j) w3 w4):=(HKXHCW3a.out.mono fE).trans hk4 iL;have HBN4:Hid (w4.heap[w1.heap.size]? =_):=(HK34.out.block _ (show w1.heap.size<w3.heap.size by omega) (HND.out _ (by omega))).trans HBN3.out;have HBe4:Hid (w4.heap[w.heap.size]? =_):=(HK34.out.block _ (show w.heap.size<w3.heap.size by omega) (HND.out _ (by omega))).trans HBe3.out;have HBr4:Hid (w4.heap[w.heap.size+1]? =_):=(HK34.out.block _ (show w.heap.size+1<w3.heap.size by omega) (HND.out _ (by omega))).trans HBr3.out;have z41:w4.cell? ⟨w1.heap.size,1,none⟩=some (.slice (some ⟨g,o,none⟩) es.length cap):=(cR HBN4.out rfl);have ec4:w4.cell? ⟨g,o+c*5+4,none⟩=some (.int .i64 (ca:Int)):=(HK34.out.cell (a:=⟨g,o+c*5+4,none⟩) (show g<w3.heap.size by omega) (HND.out g (by omega))).trans ec;have y40:w4.cell? ⟨w.heap.size,0,none⟩=some (.string e.pl.key):=(cR HBe4.out rfl);have y41:w4.cell? ⟨w.heap.size,1,none⟩=some (.int .i64 e.pl.num):=(cR HBe4.out rfl);have y42:w4.cell? ⟨w.heap.size,2,none⟩=some (.bool e.mark):=(cR HBe4.out rfl);have y43:w4.cell? ⟨w.heap.size,3,none⟩=some (.int .i64 (e.size:Int)):=(cR HBe4.out rfl);have y44:w4.cell? ⟨w.heap.size,4,none⟩=some (.int .i64 (e.at_:Int)):=(cR HBe4.out rfl);have hsz4:w3.heap.size≤w4.heap.size:=HK34.out.size;have ne4:¬w1.heap.size=w4.heap.size:=(by omega);have ne5:¬g=w4.heap.size:=(by omega);have ne6:¬w.heap.size=w4.heap.size:=(by omega);have HZ4:Hid (w4.heap[w3.heap.size]? =some (.cells #[.string ⟨#[]⟩,.int .i64 0,.bool false,.int .i64 0,.int .i64 0] 109 (0,0))):=(hk4.block w3.heap.size (show w3.heap.size<(w3.alloc (.cells #[.string ⟨#[]⟩,.int .i64 0,.bool false,.int .i64 0,.int .i64 0] 109)).heap.size by rw [hsX];omega) (HND.out _ (by omega))).trans (heap_alloc_new w3 _);have zz0:w4.cell? ⟨w3.heap.size,0,none⟩=some (.string ⟨#[]⟩):=(cR HZ4.out rfl);have zf0:=frozen_of_row w4 w3.heap.size 0 _ _ HZ4.out;have zz1:w4.cell? ⟨w3.heap.size,1,none⟩=some (.int .i64 0):=(cR HZ4.out rfl);have zf1:=frozen_of_row w4 w3.heap.size 1 _ _ HZ4.out;have zz2:w4.cell? ⟨w3.heap.size,2,none⟩=some (.bool false):=(cR HZ4.out rfl);have zf2:=frozen_of_row w4 w3.heap.size 2 _ _ HZ4.out;have zz3:w4.cell? ⟨w3.heap.size,3,none⟩=some (.int .i64 0):=(cR HZ4.out rfl);have zf3:=frozen_of_row w4 w3.heap.size 3 _ _ HZ4.out;have zz4:w4.cell? ⟨w3.heap.size,4,none⟩=some (.int .i64 0):=(cR HZ4.out rfl);have zf4:=frozen_of_row w4 w3.heap.size 4 _ _ HZ4.out;clear hc4 hT4 hk4)))
 have HKY:Hid (Kept (fun _=>False) w4 (w4.alloc (.cells #[.string e1.pl.key,.int .i64 e1.pl.num,.bool e1.mark,.int .i64 (e1.size:Int),.int .i64 (e1.at_:Int)] 109))):=Kept.alloc _ _ _
 have HB1:Hid ((w4.alloc (.cells #[.string e1.pl.key,.int .i64 e1.pl.num,.bool e1.mark,.int .i64 (e1.size:Int),.int .i64 (e1.at_:Int)] 109)).heap[w4.heap.size]? =some (.cells #[.string e1.pl.key,.int .i64 e1.pl.num,.bool e1.mark,.int .i64 (e1.size:Int),.int .i64 (e1.at_:Int)] 109 (0,0))):=heap_alloc_new w4 _
 have HCX:Hid (Cw (w4.alloc (.cells #[.string e1.pl.key,.int .i64 e1.pl.num,.bool e1.mark,.int .i64 (e1.size:Int),.int .i64 (e1.at_:Int)] 109)) bc bd S T4 {D with reads:=D.reads+n1+n4} C1):=HC4.out.kept0 (Kept.alloc _ _ _)
 have HYN:Hid (∀j,j<w3.heap.size→(w4.alloc (.cells #[.string e1.pl.key,.int .i64 e1.pl.num,.bool e1.mark,.int .i64 (e1.size:Int),.int .i64 (e1.at_:Int)] 109)).heap[j]? =w4.heap[j]?):=fun j hj=>HKY.out.block j (by omega) id
 have HKWX:Hid (Kept (fun j=>j=bd∨T j) w (w4.alloc (.cells #[.string e1.pl.key,.int .i64 e1.pl.num,.bool e1.mark,.int .i64 (e1.size:Int),.int .i64 (e1.at_:Int)] 109))):=(HKW3.out.trans HK34.out iL).trans (Kept.alloc (fun _=>False) _ _) fE
 have HK3X:Hid (Kept (fun j=>j=bd∨T j) w3 _):=HK34.out.trans (Kept.alloc (fun _=>False) w4 (.cells #[.string e1.pl.key,.int .i64 e1.pl.num,.bool e1.mark,.int .i64 (e1.size:Int),.int .i64 (e1.at_:Int)] 109)) fE
 have HTX:Hid (∀j,T4 j→T j∨w3.heap.size≤j):=HT4.out
 have hsX4:w4.heap.size≤(w4.alloc (.cells #[.string e1.pl.key,.int .i64 e1.pl.num,.bool e1.mark,.int .i64 (e1.size:Int),.int .i64 (e1.at_:Int)] 109)).heap.size:=by simp
 have hb1:w3.heap.size≤w4.heap.size∧w4.heap.size<(w4.alloc (.cells #[.string e1.pl.key,.int .i64 e1.pl.num,.bool e1.mark,.int .i64 (e1.size:Int),.int .i64 (e1.at_:Int)] 109)).heap.size:=⟨hsz4,by simp⟩
 have HB1T:Hid (¬T4 w4.heap.size):=fun hc=>by have:=HC4.out.chg.lt _ hc;omega
 clear HKY
 generalize (w4.alloc (.cells #[.string e1.pl.key,.int .i64 e1.pl.num,.bool e1.mark,.int .i64 (e1.size:Int),.int .i64 (e1.at_:Int)] 109))=X at*
 generalize hb1e:w4.heap.size=b1 at*
 rotate_left
 obtain⟨hh5,kS5⟩:=jD w4 w3.heap.size 109 _ _ _ _ _ (.string e1.pl.key) (.int .i64 e1.pl.num) (.bool e1.mark) (.int .i64 (e1.size:Int)) (.int .i64 (e1.at_:Int)) HZ4.out
 have HB1:Hid ((((((w4.setCell ⟨w3.heap.size,0,none⟩ (.string e1.pl.key)).setCell ⟨w3.heap.size,1,none⟩ (.int .i64 e1.pl.num)).setCell ⟨w3.heap.size,2,none⟩ (.bool e1.mark)).setCell ⟨w3.heap.size,3,none⟩ (.int .i64 (e1.size:Int))).setCell ⟨w3.heap.size,4,none⟩ (.int .i64 (e1.at_:Int))).heap[w3.heap.size]? =some (.cells #[.string e1.pl.key,.int .i64 e1.pl.num,.bool e1.mark,.int .i64 (e1.size:Int),.int .i64 (e1.at_:Int)] 109 (0,0))):=hh5
 have HYN:Hid (∀j,j<w3.heap.size→(((((w4.setCell ⟨w3.heap.size,0,none⟩ (.string e1.pl.key)).setCell ⟨w3.heap.size,1,none⟩ (.int .i64 e1.pl.num)).setCell ⟨w3.heap.size,2,none⟩ (.bool e1.mark)).setCell ⟨w3.heap.size,3,none⟩ (.int .i64 (e1.size:Int))).setCell ⟨w3.heap.size,4,none⟩ (.int .i64 (e1.at_:Int))).heap[j]? =w4.heap[j]?):=fun j hj=>kS5.block j (by omega) (by omega)
 have HTX:Hid (∀j,T4 j→T j∨w3.heap.size≤j):=fun j hj=>(HT4.out j hj).imp id (fun h=>by have h':(w3.alloc (.cells #[.string ⟨#[]⟩,.int .i64 0,.bool false,.int .i64 0,.int .i64 0] 109)).heap.size≤j:=h;omega)
 have HB1T:Hid (¬T4 w3.heap.size):=fun hc=>by
  rcases HT4.out _ hc with h1|h1
  ·have:=HTL.out _ h1;omega
  ·have h':(w3.alloc (.cells #[.string ⟨#[]⟩,.int .i64 0,.bool false,.int .i64 0,.int .i64 0] 109)).heap.size≤w3.heap.size:=h1;omega
 have HCX:Hid (Cw (((((w4.setCell ⟨w3.heap.size,0,none⟩ (.string e1.pl.key)).setCell ⟨w3.heap.size,1,none⟩ (.int .i64 e1.pl.num)).setCell ⟨w3.heap.size,2,none⟩ (.bool e1.mark)).setCell ⟨w3.heap.size,3,none⟩ (.int .i64 (e1.size:Int))).setCell ⟨w3.heap.size,4,none⟩ (.int .i64 (e1.at_:Int))) bc bd S T4 {D with reads:=D.reads+n1+n4} C1):=HC4.out.kept kS5 (fun j hj e0=>by have:=HSL.out j hj;omega) (fun j hj e0=>HB1T.out (by rw [←e0];exact hj))
 have HKWX:Hid (Kept (fun j=>j=bd∨T j) w (((((w4.setCell ⟨w3.heap.size,0,none⟩ (.string e1.pl.key)).setCell ⟨w3.heap.size,1,none⟩ (.int .i64 e1.pl.num)).setCell ⟨w3.heap.size,2,none⟩ (.bool e1.mark)).setCell ⟨w3.heap.size,3,none⟩ (.int .i64 (e1.size:Int))).setCell ⟨w3.heap.size,4,none⟩ (.int .i64 (e1.at_:Int)))):=(HKW3.out.trans HK34.out iL).trans kS5 (fun j hj=>.inr (by omega))
 have HK3X:Hid (Kept (fun j=>j=bd∨T j) w3 _):=HK34.out.trans kS5 (fun j hj=>.inr (by omega))
 have hsX4:w4.heap.size≤(((((w4.setCell ⟨w3.heap.size,0,none⟩ (.string e1.pl.key)).setCell ⟨w3.heap.size,1,none⟩ (.int .i64 e1.pl.num)).setCell ⟨w3.heap.size,2,none⟩ (.bool e1.mark)).setCell ⟨w3.heap.size,3,none⟩ (.int .i64 (e1.size:Int))).setCell ⟨w3.heap.size,4,none⟩ (.int .i64 (e1.at_:Int))).heap.size:=kS5.size
 have hb1:w3.heap.size≤w3.heap.size∧w3.heap.size<(((((w4.setCell ⟨w3.heap.size,0,none⟩ (.string e1.pl.key)).setCell ⟨w3.heap.size,1,none⟩ (.int .i64 e1.pl.num)).setCell ⟨w3.heap.size,2,none⟩ (.bool e1.mark)).setCell ⟨w3.heap.size,3,none⟩ (.int .i64 (e1.size:Int))).setCell ⟨w3.heap.size,4,none⟩ (.int .i64 (e1.at_:Int))).heap.size:=⟨Nat.le_refl _,(lT hh5)⟩
 clear hh5 kS5 HZ4
 generalize (((((w4.setCell ⟨w3.heap.size,0,none⟩ (.string e1.pl.key)).setCell ⟨w3.heap.size,1,none⟩ (.int .i64 e1.pl.num)).setCell ⟨w3.heap.size,2,none⟩ (.bool e1.mark)).setCell ⟨w3.heap.size,3,none⟩ (.int .i64 (e1.size:Int))).setCell ⟨w3.heap.size,4,none⟩ (.int .i64 (e1.at_:Int)))=X at*
 generalize hb1e:w3.heap.size=b1 at HB1 hb1 HB1T ⊢
 rotate_left
 all_goals
  have HBNX:Hid (X.heap[w1.heap.size]? =_):=(HYN.out _ (by omega)).trans HBN4.out
  have HBeX:Hid (X.heap[w.heap.size]? =_):=(HYN.out _ (by omega)).trans HBe4.out
  have HBrX:Hid (X.heap[w.heap.size+1]? =_):=(HYN.out _ (by omega)).trans HBr4.out
  have HOX:Hid (X.ownsRow 0 109 5 (.slice (some ⟨g,o,none⟩) es.length cap) es.length (zf es)):=HK3X.out.owns HO3.out (fun j hj=>HND.out j (by have:=HLO.out j hj;omega))
  have HTB:Hid (∀j,T4 j→j<X.heap.size):=HCX.out.chg.lt
  have hsX3:w3.heap.size≤X.heap.size:=HK3X.out.size
  have nb:¬b1=w.heap.size:=by omega
  have nb':¬w.heap.size=b1:=by omega
  clear z41 ec4 y40 y41 y42 y43 y44 y0 y1 y2 y3 y4 z1 ec HYN HK34 HK4 HC4 HCW3 HCW3a HKXHCW3 HKXHCW3a HBL
  have u0:X.cell? ⟨b1,0,none⟩=some (.string e1.pl.key):=cR HB1.out rfl
  have v0:X.cell? ⟨w.heap.size,0,none⟩=some (.string e.pl.key):=cR HBeX.out rfl
  have vf0:=frozen_of_row X w.heap.size 0 _ _ HBeX.out
  have u1:X.cell? ⟨b1,1,none⟩=some (.int .i64 e1.pl.num):=cR HB1.out rfl
  have v1:X.cell? ⟨w.heap.size,1,none⟩=some (.int .i64 e.pl.num):=cR HBeX.out rfl
  have vf1:=frozen_of_row X w.heap.size 1 _ _ HBeX.out
  have u2:X.cell? ⟨b1,2,none⟩=some (.bool e1.mark):=cR HB1.out rfl
  have v2:X.cell? ⟨w.heap.size,2,none⟩=some (.bool e.mark):=cR HBeX.out rfl
  have vf2:=frozen_of_row X w.heap.size 2 _ _ HBeX.out
  have u3:X.cell? ⟨b1,3,none⟩=some (.int .i64 (e1.size:Int)):=cR HB1.out rfl
  have v3:X.cell? ⟨w.heap.size,3,none⟩=some (.int .i64 (e.size:Int)):=cR HBeX.out rfl
  have vf3:=frozen_of_row X w.heap.size 3 _ _ HBeX.out
  have u4:X.cell? ⟨b1,4,none⟩=some (.int .i64 (e1.at_:Int)):=cR HB1.out rfl
  have v4:X.cell? ⟨w.heap.size,4,none⟩=some (.int .i64 (e.at_:Int)):=cR HBeX.out rfl
  have vf4:=frozen_of_row X w.heap.size 4 _ _ HBeX.out
  go_wp2
  go_region
  obtain⟨hhB,kSB⟩:=jD X w.heap.size 109 _ _ _ _ _ (.string e1.pl.key) (.int .i64 e1.pl.num) (.bool e1.mark) (.int .i64 (e1.size:Int)) (.int .i64 (e1.at_:Int)) HBeX.out
  have HBeB:Hid ((((((X.setCell ⟨w.heap.size,0,none⟩ (.string e1.pl.key)).setCell ⟨w.heap.size,1,none⟩ (.int .i64 e1.pl.num)).setCell ⟨w.heap.size,2,none⟩ (.bool e1.mark)).setCell ⟨w.heap.size,3,none⟩ (.int .i64 (e1.size:Int))).setCell ⟨w.heap.size,4,none⟩ (.int .i64 (e1.at_:Int))).drew.heap[w.heap.size]? =_):=hhB
  have HKXB:Hid (Kept (fun j=>j=w.heap.size) X (((((X.setCell ⟨w.heap.size,0,none⟩ (.string e1.pl.key)).setCell ⟨w.heap.size,1,none⟩ (.int .i64 e1.pl.num)).setCell ⟨w.heap.size,2,none⟩ (.bool e1.mark)).setCell ⟨w.heap.size,3,none⟩ (.int .i64 (e1.size:Int))).setCell ⟨w.heap.size,4,none⟩ (.int .i64 (e1.at_:Int))).drew):=kSB.trans (Kept.drew (fun _=>False) _) fE
  clear hhB kSB
  generalize (((((X.setCell ⟨w.heap.size,0,none⟩ (.string e1.pl.key)).setCell ⟨w.heap.size,1,none⟩ (.int .i64 e1.pl.num)).setCell ⟨w.heap.size,2,none⟩ (.bool e1.mark)).setCell ⟨w.heap.size,3,none⟩ (.int .i64 (e1.size:Int))).setCell ⟨w.heap.size,4,none⟩ (.int .i64 (e1.at_:Int))).drew=wB at*
  have hszB:=HKXB.out.size
  have HBNB:Hid (wB.heap[w1.heap.size]? =_):=(HKXB.out.block _ (by omega) (by omega)).trans HBNX.out
  have HBrB:Hid (wB.heap[w.heap.size+1]? =_):=(HKXB.out.block _ (by omega) (by omega)).trans HBrX.out
  have HOB:Hid (wB.ownsRow 0 109 5 (.slice (some ⟨g,o,none⟩) es.length cap) es.length (zf es)):=HKXB.out.owns HOX.out (fun j hj e0=>by have:=HLO.out j hj;omega)
  have HCB:Hid (Cw wB bc bd S T4 {D with reads:=D.reads+n1+n4} C1):=HCX.out.kept HKXB.out (fun j hj e0=>by have:=HSL.out j hj;omega) (fun j hj e0=>by
   rcases HTX.out j hj with h1|h1
   ·have:=HTL.out j h1;omega
   ·omega)
  have HKB:Hid (Kept (fun j=>j=bd∨T j) w wB):=HKWX.out.trans HKXB.out (fun j hj=>.inr (by omega))
  clear u0 u1 u2 u3 u4 v0 v1 v2 v3 v4 vf0 vf1 vf2 vf3 vf4
  have y0:wB.cell? ⟨w.heap.size,0,none⟩=some (.string e1.pl.key):=cR HBeB.out rfl
  have y1:wB.cell? ⟨w.heap.size,1,none⟩=some (.int .i64 e1.pl.num):=cR HBeB.out rfl
  have y2:wB.cell? ⟨w.heap.size,2,none⟩=some (.bool e1.mark):=cR HBeB.out rfl
  have y3:wB.cell? ⟨w.heap.size,3,none⟩=some (.int .i64 (e1.size:Int)):=cR HBeB.out rfl
  have y4:wB.cell? ⟨w.heap.size,4,none⟩=some (.int .i64 (e1.at_:Int)):=cR HBeB.out rfl
  have z0:wB.cell? ⟨w1.heap.size,0,none⟩=some (.int .u8 4):=cR HBNB.out rfl
  have z1:wB.cell? ⟨w1.heap.size,1,none⟩=some (.slice (some ⟨g,o,none⟩) es.length cap):=cR HBNB.out rfl
  go_wp2_with fail
  rw [show ((c:Nat):Int)+1=((c+1:Nat):Int) from by omega]
  have HKV:Hid (Kept (fun _=>False) wB (wB.alloc (.cells #[.string e1.pl.key,.int .i64 e1.pl.num,.bool e1.mark,.int .i64 (e1.size:Int),.int .i64 (e1.at_:Int)] 109))):=Kept.alloc _ _ _
  have HBV:Hid ((wB.alloc (.cells #[.string e1.pl.key,.int .i64 e1.pl.num,.bool e1.mark,.int .i64 (e1.size:Int),.int .i64 (e1.at_:Int)] 109)).heap[wB.heap.size]? =some (.cells (qp e1).toArray 109 (0,0))):=heap_alloc_new wB _
  have hsV:(wB.alloc (.cells #[.string e1.pl.key,.int .i64 e1.pl.num,.bool e1.mark,.int .i64 (e1.size:Int),.int .i64 (e1.at_:Int)] 109)).heap.size=wB.heap.size+1:=by simp
  generalize (wB.alloc (.cells #[.string e1.pl.key,.int .i64 e1.pl.num,.bool e1.mark,.int .i64 (e1.size:Int),.int .i64 (e1.at_:Int)] 109))=WV at*
  refine(vB WV (some ⟨g,o,none⟩) es.length cap (c+1) es rfl (HKV.out.owns HOB.out nF) wB.heap.size (fun hc=>by have:=(HLO.out _ hc).2;omega) e1 HBV.out (by omega) (by omega)).mono ?_
  rintro r wI ⟨gq,cp,rfl,hir⟩
  rw [HE'.out] at hir
  have HIR:Hid _:=hir
  have hszI:=hir.kept.size
  have hna:∀j,w1.heap.size≤j∨j<W.heap.size→¬(Value.slice (some ⟨g,o,none⟩) es.length cap).ownBlock=some j:=fun j hj hc=>by have:=HLO.out j hc;omega
  have HBNI:Hid (wI.heap[w1.heap.size]? =_):=(hir.kept.block _ (by omega) (hna _ (.inl (Nat.le_refl _)))).trans ((HKV.out.block _ (by omega) id).trans HBNB.out)
  have HBrI:Hid (wI.heap[w.heap.size+1]? =_):=(hir.kept.block _ (by omega) (hna _ (.inr (by omega)))).trans ((HKV.out.block _ (by omega) id).trans HBrB.out)
  have hgb:W.heap.size≤gq∧gq≠w1.heap.size∧¬T4 gq:=by
   rcases hir.at_ with h1|h1
   ·have:=HLO.out gq h1;exact⟨by omega,by omega,fun hc=>(HTX.out gq hc).elim (fun h=>by have:=HTL.out gq h;omega) (fun h=>by omega)⟩
   ·exact⟨by omega,by omega,fun hc=>by have:=HTB.out gq hc;omega⟩
  have HKI:Hid (Kept (fun j=>(Value.slice (some ⟨g,o,none⟩) es.length cap).ownBlock=some j) wB wI):=(HKV.out.mono fE).trans hir.kept iL
  have p0:wI.cell? ⟨w1.heap.size,0,none⟩=some (.int .u8 4):=cR HBNI.out rfl
  have p1:wI.cell? ⟨w1.heap.size,1,none⟩=some (.slice (some ⟨g,o,none⟩) es.length cap):=cR HBNI.out rfl
  have pf1:=frozen_of_row wI w1.heap.size 1 _ _ HBNI.out
  clear hir hna
  go_wp2_with fail
  have HB5:Hid ((wI.setCell ⟨w1.heap.size,1,none⟩ (.slice (some ⟨gq,0,none⟩) (es.length+1) cp)).heap[w1.heap.size]? =some (.cells #[.int .u8 4,.slice (some ⟨gq,0,none⟩) (es.length+1) cp] 209 (0,0))):=heap_setCell_same wI w1.heap.size 1 _ _ _ HBNI.out
  have HKS:Hid (Kept (fun j=>j=w1.heap.size) wI (wI.setCell ⟨w1.heap.size,1,none⟩ (.slice (some ⟨gq,0,none⟩) (es.length+1) cp))):=Kept.setCell (S:=fun j=>j=w1.heap.size) wI ⟨w1.heap.size,1,none⟩ _ rfl
  have hs5:(wI.setCell ⟨w1.heap.size,1,none⟩ (.slice (some ⟨gq,0,none⟩) (es.length+1) cp)).heap.size=wI.heap.size:=by simp
  generalize (wI.setCell ⟨w1.heap.size,1,none⟩ (.slice (some ⟨gq,0,none⟩) (es.length+1) cp))=W5 at*
  have HO5:Hid (W5.ownsRow 0 109 5 (.slice (some ⟨gq,0,none⟩) es'.length cp) es'.length (zf es')):=HKS.out.owns HIR.out.own (fun j hj e0=>by simp [Value.ownBlock] at hj;omega)
  have HR5:Hid (zH W5 (fun j=>j=gq) (some ⟨gq,0,none⟩) es'):=zH.of_own HO5.out (fun j hj=>by simp [Value.ownBlock] at hj;exact hj.symm) (by omega)
  have hcp:es.length+1≤cp∧cp≤9223372036854775807:=by
   rcases HO5.out.2 with⟨h1,h2⟩|⟨g',cap',cur,hv,_,hg,h1,h2,_⟩
   ·cases h1
   ·cases hv;unfold maxLen at h2;omega
  have HK5:Hid (Kept (fun j=>(Value.slice (some ⟨g,o,none⟩) es.length cap).ownBlock=some j∨j=w1.heap.size) wB W5):=(HKI.out.mono iL).trans HKS.out (fun _ h=>.inl (.inr h))
  have HCW5:Hid (Cw W5 bc bd S T4 {D with reads:=D.reads+n1+n4} C1):=HCB.out.kept HK5.out (fun j hj hc=>by
   have:=HSL.out j hj
   rcases hc with hc|hc
   ·have:=HLO.out j hc;omega
   ·omega) (fun j hj hc=>by
   rcases HTX.out j hj with h1|h1
   ·have:=HTL.out j h1
    rcases hc with hc|hc
    ·have:=HLO.out j hc;omega
    ·omega
   ·rcases hc with hc|hc
    ·have:=HLO.out j hc;omega
    ·omega)
  have HBr5:Hid (W5.heap[w.heap.size+1]? =_):=(HKS.out.block _ (by omega) (by omega)).trans HBrI.out
  have HKW5:Hid (Kept (fun j=>j=bd∨T j) w W5):=HKB.out.trans HK5.out (fun j hj=>by
   rcases hj with hc|hc
   ·have:=HLO.out j hc;exact .inr (by omega)
   ·exact .inr (by omega))
  have p50:W5.cell? ⟨w1.heap.size,0,none⟩=some (.int .u8 4):=cR HB5.out rfl
  have p51:W5.cell? ⟨w1.heap.size,1,none⟩=some (.slice (some ⟨gq,0,none⟩) (es.length+1) cp):=cR HB5.out rfl
  have hlN5:w1.heap.size<W5.heap.size:=by omega
  clear p0 p1 pf1
  go_region_held3 (fun w'=>w'.cell? ⟨w1.heap.size,0,none⟩=some (.int .u8 4)∧w'.cell? ⟨w1.heap.size,1,none⟩=some (.slice (some ⟨gq,0,none⟩) (es.length+1) cp)) (go_keep) ((go_at_call 129;refine(jh _ 4 (by decide)).mono ?_;rintro r w6 ⟨rfl,hw6⟩;rw [hw6];clear hw6 w6))
  have hrm:room 4=6:=rfl
  have HKD:Hid (Kept (fun _=>False) W5 W5.drew):=Kept.drew _ W5
  have hs6:W5.drew.heap.size=W5.heap.size:=rfl
  generalize W5.drew=W6 at*
  have HR6:Hid (zH W6 (fun j=>j=gq) (some ⟨gq,0,none⟩) es'):=HR5.out.kept HKD.out nF
  have HCW6:Hid (Cw W6 bc bd S T4 {D with reads:=D.reads+n1+n4} C1):=HCW5.out.kept0 HKD.out
  have HBr6:Hid (W6.heap[w.heap.size+1]? =_):=(HKD.out.block _ (by omega) id).trans HBr5.out
  have HB6:Hid (W6.heap[w1.heap.size]? =_):=(HKD.out.block _ (by omega) id).trans HB5.out
  have HKW6:Hid (Kept (fun j=>j=bd∨T j) w W6):=HKW5.out.trans HKD.out fE
  have p60:W6.cell? ⟨w1.heap.size,0,none⟩=some (.int .u8 4):=cR HB6.out rfl
  have p61:W6.cell? ⟨w1.heap.size,1,none⟩=some (.slice (some ⟨gq,0,none⟩) (es.length+1) cp):=cR HB6.out rfl
  have HGT:Hid (∀j,j=gq→¬T4 j):=fun j hj hT=>hgb.2.2 (by rw [←hj];exact hT)
  have HGd:Hid (∀j,j=gq→j≠bd):=fun j hj e0=>by omega
  clear p50 p51
  by_cases hle:es.length+1≤6
  ·have hm1:(false,qo,C1.put at_ (zl (za 4 es')),m1)=(f,v,C',m'):=by
    have:=HMO.out
    unfold Ck.more at this
    rw [if_pos (by omega)] at this
    exact this
   clear HMO
   cases hm1
   have hleI:(es.length:Int)+1≤((room 4:Nat):Int):=by rw [hrm];omega
   go_wp2_with fail
   refine(jQ W6 bc bd S T4 _ C1 HCW6.out (fun j=>j=gq) (some ⟨gq,0,none⟩) cp 4 (.inl rfl) es' HR6.out HES'.out (by omega) at_ (by omega) (es.length+1) hlen').mono ?_
   rintro r w7 ⟨rfl,⟨T7,hc7,hT7⟩,hk7⟩
   have HC7:Hid _:=hc7
   have HT7:Hid _:=hT7
   have HK7:Hid (Kept T4 W6 w7):=hk7
   have HBr7:Hid (w7.heap[w.heap.size+1]? =_):=(hk7.block _ (by omega) (fun hc=>(HTX.out _ hc).elim (fun h=>by have:=HTL.out _ h;omega) (fun h=>by omega))).trans HBr6.out
   have q0:w7.cell? ⟨w.heap.size+1,0,none⟩=some (.string ⟨#[]⟩):=cR HBr7.out rfl
   have q1:w7.cell? ⟨w.heap.size+1,1,none⟩=some (.int .i64 0):=cR HBr7.out rfl
   have q2:w7.cell? ⟨w.heap.size+1,2,none⟩=some (.bool false):=cR HBr7.out rfl
   have q3:w7.cell? ⟨w.heap.size+1,3,none⟩=some (.int .i64 0):=cR HBr7.out rfl
   have q4:w7.cell? ⟨w.heap.size+1,4,none⟩=some (.int .i64 0):=cR HBr7.out rfl
   have f0:=frozen_of_row w7 (w.heap.size+1) 0 _ _ HBr7.out
   have f1:=frozen_of_row w7 (w.heap.size+1) 1 _ _ HBr7.out
   have f2:=frozen_of_row w7 (w.heap.size+1) 2 _ _ HBr7.out
   have f3:=frozen_of_row w7 (w.heap.size+1) 3 _ _ HBr7.out
   have f4:=frozen_of_row w7 (w.heap.size+1) 4 _ _ HBr7.out
   clear hc7 hT7 hk7
   go_wp2
   have HC8:Hid (Cw w7 bc bd S T7 {D with reads:=D.reads+(n1+n4)} (C1.put at_ (zl (za 4 es')))):=by have:=HC7.out;rw [Int.add_assoc] at this;exact this
   obtain⟨hh,kS⟩:=jD w7 (w.heap.size+1) 109 _ _ _ _ _ (.string ⟨#[]⟩) (.int .i64 0) (.bool false) (.int .i64 0) (.int .i64 0) HBr7.out
   refine bodyPost_ret (v:=.tuple #[.agg qo.toArray,.bool false]) (yn Tryz.results137 _ _ (w.heap.size+1) 109 _ (0,0) _ rfl hh Tryz.underlying109 rfl (by kernel_rfl)) rfl ⟨rfl,⟨n1+n4,T7,by omega,by omega,HC8.out.kept kS (fun j hj e0=>by have:=HSL.out j hj;omega) (fun j hj e0=>?_),fun j hj=>(HT7.out j hj).elim (fun h=>(HTX.out j h).imp id (fun h=>by omega)) (fun h=>.inr (by have:=HKW6.out.size;omega))⟩,?_⟩
   ·rcases HT7.out j hj with h1|h1
    ·rcases HTX.out j h1 with h2|h2
     ·have:=HTL.out j h2;omega
     ·omega
    ·omega
   ·exact(HKW6.out.trans HK7.out (fun j hj=>(HTX.out j hj).elim (fun h=>.inl (.inr h)) (fun h=>.inr (by omega)))).trans kS (fun j hj=>.inr (by omega))
  ·have hm1:(true,qp ⟨(es'.getD (es'.length/2) vX).pl,false,0,(C1.split D.bs.length m1 at_ 4 es').1⟩,(C1.split D.bs.length m1 at_ 4 es').2.1,(C1.split D.bs.length m1 at_ 4 es').2.2)=(f,v,C',m'):=by
    have:=HMO.out
    unfold Ck.more at this
    rw [if_neg (by omega)] at this
    exact this
   clear HMO
   cases hm1
   have hleI:((room 4:Nat):Int)<(es.length:Int)+1:=by rw [hrm];omega
   have HMM:Hid (qn (C1.look {D with reads:=D.reads+n1+n4} 2) m1):=by show qn _ _;rw [zI];exact HM1.out
   go_wp2_with fail
   refine(YE W6 bc bd S T4 _ C1 HCW6.out m1 HMM.out (by show 0≤D.reads+n1+n4;omega) (by show D.reads+n1+n4≤_;omega) (fun j=>j=gq) HGT.out HGd.out (some ⟨gq,0,none⟩) cp 4 (.inl rfl) es' HR6.out HES'.out (es.length+1) hlen' (by omega) (by omega) hcp.1 hcp.2 at_ (by omega)).mono ?_
   rintro r w7 ⟨rfl,⟨n7,T7,hn70,hn71,hc7,hT7⟩,hk7⟩
   have HC7:Hid _:=hc7
   have HT7:Hid _:=hT7
   have HK7:Hid (Kept (fun j=>j=bd∨T4 j) W6 w7):=hk7
   have HBr7:Hid (w7.heap[w.heap.size+1]? =_):=(hk7.block _ (by omega) (fun hc=>hc.elim (fun h=>by omega) (fun hc=>(HTX.out _ hc).elim (fun h=>by have:=HTL.out _ h;omega) (fun h=>by omega)))).trans HBr6.out
   have q0:w7.cell? ⟨w.heap.size+1,0,none⟩=some (.string ⟨#[]⟩):=cR HBr7.out rfl
   have q1:w7.cell? ⟨w.heap.size+1,1,none⟩=some (.int .i64 0):=cR HBr7.out rfl
   have q2:w7.cell? ⟨w.heap.size+1,2,none⟩=some (.bool false):=cR HBr7.out rfl
   have q3:w7.cell? ⟨w.heap.size+1,3,none⟩=some (.int .i64 0):=cR HBr7.out rfl
   have q4:w7.cell? ⟨w.heap.size+1,4,none⟩=some (.int .i64 0):=cR HBr7.out rfl
   have f0:=frozen_of_row w7 (w.heap.size+1) 0 _ _ HBr7.out
   have f1:=frozen_of_row w7 (w.heap.size+1) 1 _ _ HBr7.out
   have f2:=frozen_of_row w7 (w.heap.size+1) 2 _ _ HBr7.out
   have f3:=frozen_of_row w7 (w.heap.size+1) 3 _ _ HBr7.out
   have f4:=frozen_of_row w7 (w.heap.size+1) 4 _ _ HBr7.out
   clear hc7 hT7 hk7
   generalize hpl:(es'.getD (es'.length/2) vX).pl=pl at*
   generalize hsp:C1.split D.bs.length m1 at_ 4 es'=sp at*
   obtain⟨sa,sC,sm⟩:=sp
   dsimp only at HC7 ⊢
   have HPL:Hid ((es'.getD (es'.length/2) vX).pl=pl):=hpl
   have HSP:Hid (C1.split D.bs.length m1 at_ 4 es'=(sa,sC,sm)):=hsp
   clear hpl hsp
   unfold qp
   go_wp2
   obtain⟨hh,kS⟩:=jD w7 (w.heap.size+1) 109 _ _ _ _ _ (.string pl.key) (.int .i64 pl.num) (.bool false) (.int .i64 0) (.int .i64 (sa:Int)) HBr7.out
   refine bodyPost_ret (v:=.tuple #[.agg (qp ⟨pl,false,0,sa⟩).toArray,.bool true]) (yn Tryz.results137 _ _ (w.heap.size+1) 109 _ (0,0) _ rfl hh Tryz.underlying109 rfl (by kernel_rfl)) rfl ⟨by rw [HPL.out,HSP.out],⟨n1+n4+n7,T7,by omega,by omega,?_,fun j hj=>(HT7.out j hj).elim (fun h=>(HTX.out j h).imp id (fun h=>by omega)) (fun h=>.inr (by have:=HKW6.out.size;omega))⟩,?_⟩
   ·have:=HC7.out.kept kS (fun j hj e0=>by have:=HSL.out j hj;omega) (fun j hj e0=>by
     rcases HT7.out j hj with h1|h1
     ·rcases HTX.out j h1 with h2|h2
      ·have:=HTL.out j h2;omega
      ·omega
     ·omega)
    have hre:D.reads+n1+n4+n7=D.reads+(n1+n4+n7):=by omega
    rw [hre] at this
    rw [HSP.out]
    exact this
   ·exact(HKW6.out.trans HK7.out (fun j hj=>hj.elim (fun h=>.inl (.inl h)) (fun h=>(HTX.out j h).elim (fun h=>.inl (.inr h)) (fun h=>.inr (by omega))))).trans kS (fun j hj=>.inr (by omega))
end prog
namespace prog
open ref
structure fe {h:Nat} (t:Tr h) (e:En) (t':Tr h):Prop where
 blk:t'.blk=t.blk
 good:t'.Good
 lo:t.items.length≤t'.items.length
 hi:t'.items.length≤6
 ents:t'.ents=yb e t.ents
 first:∀p,t.First p→t'.First p
structure uN {h:Nat} (t:Tr h) (e:En) (t' u:Tr h) (q:Pl):Prop where
 blk:t'.blk=t.blk
 good:t'.Good
 goodu:u.Good
 lo:3≤t'.items.length
 hi:t'.items.length≤6
 lou:3≤u.items.length
 hiu:u.items.length≤6
 ents:t'.ents++u.ents=yb e t.ents
 first:∀p,t.First p→t'.First p
 firstu:u.First q
 qok:q.Ok
 left:∀x∈t'.ents,x.pl.lt q=true
 right:∀x∈u.ents,¬x.pl.lt q=true
theorem zs{h:Nat}(b:Nat)(cs:List (Pl×Tr h)):(Tr.items (h:=h+1) (b,cs)).length=cs.length:=ys (h:=h) (b,cs)
theorem JI{b:Nat}{es:List En}{e:En}(g:Tr.Good (h:=0) (b,es))(he:e.Ok)(hl:(yb e es).length≤6):fe (h:=0) (b,es) e (b,yb e es) where
 blk:=rfl
 good:=⟨g.1,fun x hx=>by
  rcases ji.1 hx with rfl|hx
  ·exact he
  ·exact g.2 x hx⟩
 lo:=by
  show es.length≤(yb e es).length
  rw [(jj e es).length_eq];simp
 hi:=hl
 ents:=rfl
 first:=fun _ h=>h
theorem YF{es:List En}{e:En}(g:∀x∈es,x.Ok)(he:e.Ok):∀x∈yb e es,x.Ok:=fun x hx=>by
 rcases ji.1 hx with rfl|hx
 ·exact he
 ·exact g x hx
theorem Zk(e:En)(es:List En):(yb e es).length=es.length+1:=by rw [(jj e es).length_eq];simp
theorem JJ{b ta:Nat}{es l:List En}{e:En}(g:Tr.Good (h:=0) (b,es))(he:e.Ok)(hta:ta<65536)(hs:yg es)(hn:∀x∈es,x.pl≠e.pl)(hl:yb e es=l)(h6:es.length=6)(d:En):
 uN (h:=0) (b,es) e (b,l.take (l.length/2)) (ta,l.drop (l.length/2)) (l.getD (l.length/2) d).pl:=by
 have hok:=YF g.2 he
 have hs':=hs.ins hn
 have hlen:l.length=7:=by rw [←hl,Zk,h6]
 rw [hl] at hok hs'
 rw [hlen]
 have e0:l=l.take 3++l[3]::l.drop 4:=by rw [←List.drop_eq_getElem_cons,List.take_append_drop]
 have hg:l.getD (7/2) d=l[3]:=by rw [List.getD_eq_getElem?_getD,List.getElem?_eq_getElem (by omega)];rfl
 have hs2:yg (l.take 3++l[3]::l.drop 4):=by rw [←e0];exact hs'
 have hp:=List.pairwise_append.1 hs2
 have hd:l.drop (7/2)=l[3]::l.drop 4:=List.drop_eq_getElem_cons (by omega)
 rw [hg]
 refine⟨rfl,⟨g.1,fun x hx=>hok x (List.mem_of_mem_take hx)⟩,⟨hta,fun x hx=>hok x (List.mem_of_mem_drop hx)⟩,?_,?_,?_,?_,?_,fun _ h=>h,True.intro,(hok _ (List.getElem_mem (by omega))).pl,?_,?_⟩
 ·show 3≤(l.take (7/2)).length;simp;omega
 ·show (l.take (7/2)).length≤6;simp;omega
 ·show 3≤(l.drop (7/2)).length;simp;omega
 ·show (l.drop (7/2)).length≤6;simp;omega
 ·show l.take (7/2)++l.drop (7/2)=yb e es
  rw [List.take_append_drop,hl]
 ·intro x hx
  exact hp.2.2 x hx _ (List.mem_cons_self ..)
 ·intro x hx
  have hx:x∈l.drop (7/2):=hx
  rw [hd] at hx
  rcases List.mem_cons.1 hx with rfl|hx
  ·exact Pl.irrefl _
  ·exact Pl.asymm ((List.pairwise_cons.1 hp.2.1).1 x hx)
theorem Kids.route{h:Nat}{A B:List (Pl×Tr h)}{q0:Pl}{tc:Tr h}(k:Kids (A++(q0,tc)::B)){e:En}(hq:¬e.pl.lt q0=true)(hB:∀b∈B,e.pl.lt b.1=true):
 yb e (zJ (A++(q0,tc)::B))=zJ A++(yb e tc.ents++zJ B):=by
 obtain⟨m1,m2,m3,m4,m5,m6,m7⟩:=k.mid
 rw [zt,zo]
 refine Jq (fun x hx=>Pl.lt_of_lt_not (m3 x hx) hq) (fun x hx=>?_)
 obtain⟨l,hl,hx'⟩:=List.mem_flatten.1 hx
 obtain⟨c,hc,rfl⟩:=List.mem_map.1 hl
 have h1:=m7 c hc x hx'
 have h2:=hB c hc
 cases h3:x.pl.lt e.pl with
 |false=>rfl
 |true=>exact absurd (Pl.trans h3 h2) h1
theorem xw{h:Nat}{b b':Nat}{A B B':List (Pl×Tr h)}{q0 p:Pl}{tc tc':Tr h}(hf:Tr.First (h:=h+1) (b,A++(q0,tc)::B) p):Tr.First (h:=h+1) (b',A++(q0,tc')::B') p:=by
 obtain⟨u,r,hu⟩:=hf
 simp only at hu
 cases A with
 |nil=>
  simp only [List.nil_append,List.cons.injEq,Prod.mk.injEq] at hu
  exact⟨tc',B',by simp [hu.1.1]⟩
 |cons a A=>
  simp only [List.cons_append,List.cons.injEq] at hu
  exact⟨u,A++(q0,tc')::B',by simp [hu.1]⟩
theorem QO{h:Nat}{b:Nat}{A B:List (Pl×Tr h)}{q0:Pl}{tc tc':Tr h}{e:En}(g:Tr.Good (h:=h+1) (b,A++(q0,tc)::B))(hl:(A++(q0,tc)::B).length≤6)(hq:¬e.pl.lt q0=true)(hB:∀b∈B,e.pl.lt b.1=true)(k:fe tc e tc'):
 fe (h:=h+1) (b,A++(q0,tc)::B) e (b,A++(q0,tc')::B):=by
 have kk:Kids (A++(q0,tc)::B):=g.kids
 obtain⟨m1,m2,m3,m4,m5,m6,m7⟩:=kk.mid
 have hf3:=g.full
 simp only at hf3
 have hm:∀x∈tc'.ents,x=e∨x∈tc.ents:=fun x hx=>by rw [k.ents] at hx;exact ji.1 hx
 refine⟨rfl,?_,?_,?_,?_,fun p hp=>xw hp⟩
 ·refine Kids.node (kk.swap k.good k.hi (k.first _ m5) (fun x hx=>?_) (fun b' hb' x hx=>?_)) (fun c hc=>?_) g.1
  ·rcases hm x hx with rfl|hx
   ·exact hq
   ·exact m4 x (by rw [zo];exact List.mem_append_left _ hx)
  ·rcases hm x hx with rfl|hx
   ·exact hB b' hb'
   ·exact m6 b' hb' x (List.mem_append_right _ hx)
  ·rcases List.mem_append.1 hc with hc|hc
   ·exact hf3 c (List.mem_append_left _ hc)
   ·rcases List.mem_cons.1 hc with rfl|hc
    ·exact Nat.le_trans (hf3 (q0,tc) (by simp)) k.lo
    ·exact hf3 c (by simp [hc])
 ·refine Nat.le_trans (Nat.le_of_eq (zs _ _)) (Nat.le_trans ?_ (Nat.le_of_eq (zs _ _).symm));simp
 ·exact Nat.le_trans (Nat.le_of_eq (zs _ _)) (by simpa using hl)
 ·show zJ (A++(q0,tc')::B)=yb e (zJ (A++(q0,tc)::B))
  rw [kk.route hq hB,zt,zo,k.ents]
theorem Zl{h:Nat}{b:Nat}{A B:List (Pl×Tr h)}{q0 q:Pl}{tc tc' uc:Tr h}{e:En}(g:Tr.Good (h:=h+1) (b,A++(q0,tc)::B))(hq:¬e.pl.lt q0=true)(hB:∀b∈B,e.pl.lt b.1=true)(k:uN tc e tc' uc q):
 Kids (A++(q0,tc')::(q,uc)::B)∧(∀c∈A++(q0,tc')::(q,uc)::B,3≤c.2.items.length)∧zJ (A++(q0,tc')::(q,uc)::B)=yb e (zJ (A++(q0,tc)::B)):=by
 have kk:Kids (A++(q0,tc)::B):=g.kids
 obtain⟨m1,m2,m3,m4,m5,m6,m7⟩:=kk.mid
 have hf3:=g.full
 simp only at hf3
 have hm:∀x,x∈tc'.ents∨x∈uc.ents→x=e∨x∈tc.ents:=fun x hx=>by
  refine ji.1 (k.ents▸ ?_)
  exact List.mem_append.2 hx
 have hge:∀x,x∈tc'.ents∨x∈uc.ents→¬x.pl.lt q0=true:=fun x hx=>by
  rcases hm x hx with rfl|hx
  ·exact hq
  ·exact m4 x (by rw [zo];exact List.mem_append_left _ hx)
 have hlt:∀b∈B,∀x,x∈tc'.ents∨x∈uc.ents→x.pl.lt b.1=true:=fun b' hb' x hx=>by
  rcases hm x hx with rfl|hx
  ·exact hB b' hb'
  ·exact m6 b' hb' x (List.mem_append_right _ hx)
 obtain⟨x,hx⟩:=k.good.some_ent (by have:=k.lo;omega)
 obtain⟨y,hy⟩:=k.goodu.some_ent (by have:=k.lou;omega)
 refine⟨kk.parted k.good k.goodu k.hi k.hiu k.qok (k.first _ m5) k.firstu (Pl.lt_of_not (hge x (.inl hx)) (k.left x hx)) k.left k.right (fun z hz=>hge z (.inl hz)) (fun b' hb' z hz=>hlt b' hb' z (.inr hz)) (fun b' hb'=>Pl.lt_of_not (k.right y hy) (hlt b' hb' y (.inr hy))),fun c hc=>?_,?_⟩
 ·rcases List.mem_append.1 hc with hc|hc
  ·exact hf3 c (List.mem_append_left _ hc)
  ·rcases List.mem_cons.1 hc with rfl|hc
   ·exact k.lo
   ·rcases List.mem_cons.1 hc with rfl|hc
    ·exact k.lou
    ·exact hf3 c (by simp [hc])
 ·rw [kk.route hq hB,zt,zo,zo,←k.ents]
  simp
theorem QP{h:Nat}{b:Nat}{A B:List (Pl×Tr h)}{q0 q:Pl}{tc tc' uc:Tr h}{e:En}(g:Tr.Good (h:=h+1) (b,A++(q0,tc)::B))(hl:(A++(q0,tc)::B).length+1≤6)(hq:¬e.pl.lt q0=true)(hB:∀b∈B,e.pl.lt b.1=true)(k:uN tc e tc' uc q):
 fe (h:=h+1) (b,A++(q0,tc)::B) e (b,A++(q0,tc')::(q,uc)::B):=by
 obtain⟨h1,h2,h3⟩:=Zl g hq hB k
 refine⟨rfl,h1.node h2 g.1,?_,?_,h3,fun p hp=>xw hp⟩
 ·refine Nat.le_trans (Nat.le_of_eq (zs _ _)) (Nat.le_trans ?_ (Nat.le_of_eq (zs _ _).symm));simp
 ·exact Nat.le_trans (Nat.le_of_eq (zs _ _)) (by simp at hl ⊢;omega)
theorem QQ{h:Nat}{b ta:Nat}{A B:List (Pl×Tr h)}{q0 q:Pl}{tc tc' uc:Tr h}{e:En}(g:Tr.Good (h:=h+1) (b,A++(q0,tc)::B))(hl:(A++(q0,tc)::B).length=6)(hta:ta<65536)(hq:¬e.pl.lt q0=true)(hB:∀b∈B,e.pl.lt b.1=true)(k:uN tc e tc' uc q)
 (cs:List (Pl×Tr h)) (hcs:A++(q0,tc')::(q,uc)::B=cs) (q3:Pl) (hq3:(cs.map Prod.fst)[3]? =some q3):
 uN (h:=h+1) (b,A++(q0,tc)::B) e (b,cs.take 3) (ta,cs.drop 3) q3:=by
 obtain⟨h1,h2,h3⟩:=Zl g hq hB k
 have hlen:cs.length=7:=by rw [←hcs];simp at hl ⊢;omega
 have hfirst:∀p,Tr.First (h:=h+1) (b,A++(q0,tc)::B) p→Tr.First (h:=h+1) (b,cs.take 3) p:=fun p hp=>by
  obtain⟨u,r,hu⟩:=xw (b':=b) (B':=(q,uc)::B) (tc':=tc') hp
  simp only at hu
  rw [hcs] at hu
  exact⟨u,r.take 2,by simp only;rw [hu,List.take_succ_cons]⟩
 rw [hcs] at h1 h2 h3
 have hd:cs.drop 3=cs[3]::cs.drop 4:=List.drop_eq_getElem_cons (by omega)
 have e0:cs=cs.take 3++cs[3]::cs.drop 4:=by rw [←hd,List.take_append_drop]
 have hc3:cs[3]=(q3,cs[3].2):=by
  have:cs[3].1=q3:=by
   rw [List.getElem?_map,List.getElem?_eq_getElem (by omega)] at hq3
   simpa using hq3
  rw [←this]
 have hk:Kids (cs.take 3++(q3,cs[3].2)::cs.drop 4):=by rw [←hc3,←e0];exact h1
 obtain⟨m1,m2,m3,m4,m5,m6,m7⟩:=hk.mid
 have kl:Kids (cs.take 3):=hk.left
 have kr:Kids (cs.drop 3):=by rw [hd,hc3];exact hk.right
 refine⟨rfl,kl.node (fun c hc=>h2 c (List.mem_of_mem_take hc)) g.1,kr.node (fun c hc=>h2 c (List.mem_of_mem_drop hc)) hta,?_,?_,?_,?_,?_,hfirst,?_,?_,?_,?_⟩
 ·refine Nat.le_trans ?_ (Nat.le_of_eq (zs _ _).symm);simp;omega
 ·refine Nat.le_trans (Nat.le_of_eq (zs _ _)) ?_;simp;omega
 ·refine Nat.le_trans ?_ (Nat.le_of_eq (zs _ _).symm);simp;omega
 ·refine Nat.le_trans (Nat.le_of_eq (zs _ _)) ?_;simp;omega
 ·show zJ (cs.take 3)++zJ (cs.drop 3)=yb e (zJ (A++(q0,tc)::B))
  rw [←zt,List.take_append_drop,h3]
 ·exact⟨cs[3].2,cs.drop 4,by simp only;rw [hd];exact congrArg (· ::cs.drop 4) hc3⟩
 ·exact(hk.right.good (q3,cs[3].2) (List.mem_cons_self ..)).2.2
 ·intro x hx;exact m3 x hx
 ·intro x hx
  refine m4 x ?_
  rw [←hc3,←hd];exact hx
def Tr.LayV{β:Type}(pg:Pg→β)(rd:Nat→β):{h:Nat}→Tr h→Prop
 |0,t=>rd t.1=pg (za 5 t.2)
 |h+1,t=>rd t.1=pg (za 4 (Tr.items (h:=h+1) t))∧∀c∈t.2,Tr.LayV pg rd (h:=h) c.2
theorem Tr.LayV.node{β:Type}{pg:Pg→β}{rd:Nat→β}:{h:Nat}→{t:Tr h}→t.LayV pg rd→rd t.blk=pg (za (zN h) t.items)
 |0,_,l=>l
 |_+1,_,l=>l.1
theorem zU{h:Nat}{cs:List (Pl×Tr h)}{c:Pl×Tr h}{j:Nat}(hc:c∈cs)(hj:j∈c.2.blocks):j∈zA cs:=List.mem_flatten.2 ⟨_,List.mem_map.2 ⟨c,hc,rfl⟩,hj⟩
theorem JK{h:Nat}{cs:List (Pl×Tr h)}{x:En}(hj:x∈zJ cs):∃c∈cs,x∈c.2.ents:=by
 obtain⟨l,hl,hj⟩:=List.mem_flatten.1 hj
 obtain⟨c,hc,rfl⟩:=List.mem_map.1 hl
 exact⟨c,hc,hj⟩
theorem j9{h:Nat}{cs:List (Pl×Tr h)}{c:Pl×Tr h}{x:En}(hc:c∈cs)(hj:x∈c.2.ents):x∈zJ cs:=List.mem_flatten.2 ⟨_,List.mem_map.2 ⟨c,hc,rfl⟩,hj⟩
theorem Tr.LayV.congr{β:Type}{pg:Pg→β}{rd rd':Nat→β}:∀{h:Nat} {t:Tr h},t.LayV pg rd→(∀j∈t.blocks,rd' j=rd j)→t.LayV pg rd'
 |0,t,l,h=>(h t.1 (List.mem_singleton.2 rfl)).trans l
 |h+1,t,l,he=>⟨(he t.1 (List.mem_cons_self ..)).trans l.1,fun c hc=>(l.2 c hc).congr (fun j hj=>he j (List.mem_cons_of_mem _ (zU hc hj)))⟩
theorem vE{h:Nat}{b:Nat}{A B:List (Pl×Tr h)}{q0:Pl}{tc tc':Tr h}{nb:List Nat}(hp:tc'.blocks.Perm (tc.blocks++nb)):
 (Tr.blocks (h:=h+1) (b,A++(q0,tc')::B)).Perm (Tr.blocks (h:=h+1) (b,A++(q0,tc)::B)++nb):=by
 show (b::zA (A++(q0,tc')::B)).Perm (b::zA (A++(q0,tc)::B)++nb)
 rw [ql,qt,ql,qt]
 simp only [List.cons_append,List.append_assoc]
 refine List.Perm.cons b (List.Perm.append_left _ ?_)
 refine(hp.append_right _).trans ?_
 rw [List.append_assoc]
 exact List.Perm.append_left _ List.perm_append_comm
theorem xZ{h:Nat}{b:Nat}{A B:List (Pl×Tr h)}{q0 q:Pl}{tc tc' uc:Tr h}{nb:List Nat}(hp:(tc'.blocks++uc.blocks).Perm (tc.blocks++nb)):
 (b::zA (A++(q0,tc')::(q,uc)::B)).Perm (Tr.blocks (h:=h+1) (b,A++(q0,tc)::B)++nb):=by
 show (b::zA (A++(q0,tc')::(q,uc)::B)).Perm (b::zA (A++(q0,tc)::B)++nb)
 rw [ql,qt,qt,ql,qt]
 simp only [List.cons_append,List.append_assoc]
 refine List.Perm.cons b (List.Perm.append_left _ ?_)
 rw [←List.append_assoc]
 refine(hp.append_right _).trans ?_
 rw [List.append_assoc]
 exact List.Perm.append_left _ List.perm_append_comm
theorem vF{h:Nat}{b ta:Nat}{t:Tr (h+1)}{cs:List (Pl×Tr h)}{nb:List Nat}(hp:(b::zA cs).Perm (t.blocks++nb))(i:Nat):
 (Tr.blocks (h:=h+1) (b,cs.take i)++Tr.blocks (h:=h+1) (ta,cs.drop i)).Perm (t.blocks++(nb++[ta])):=by
 show (b::zA (cs.take i)++ta::zA (cs.drop i)).Perm _
 have e:zA cs=zA (cs.take i)++zA (cs.drop i):=by rw [←ql,List.take_append_drop]
 refine List.perm_middle.trans ?_
 rw [List.cons_append,←e,←List.append_assoc]
 exact(hp.cons ta).trans (List.perm_append_comm (l₁:=[ta]))
theorem kV{h:Nat}:∀(cs:List (Pl×Tr h)),(∀c∈cs,2*c.2.blocks.length+1≤c.2.ents.length)→2*(zA cs).length+cs.length≤(zJ cs).length
 |[],_=>by simp [zA,zJ]
 |c::cs,hc=>by
  have h1:=hc c (List.mem_cons_self ..)
  have h2:=kV cs (fun x hx=>hc x (List.mem_cons_of_mem _ hx))
  rw [qt,zo,List.length_append,List.length_append,List.length_cons]
  omega
theorem fg{h:Nat}(k:Nat):∀(cs:List (Pl×Tr h)),(∀c∈cs,k≤2*c.2.blocks.length+1)→cs.length*k≤2*(zA cs).length+cs.length
 |[],_=>by simp
 |c::cs,hc=>by
  have h1:=hc c (List.mem_cons_self ..)
  have h2:=fg k cs (fun x hx=>hc x (List.mem_cons_of_mem _ hx))
  rw [qt,List.length_append,List.length_cons,Nat.add_mul]
  omega
theorem Tr.Good.few:∀{h:Nat} {t:Tr h},t.Good→3≤t.items.length→2*t.blocks.length+1≤t.ents.length
 |0,t,_,hl=>hl
 |h+1,t,g,hl=>by
  have:=kV t.2 (fun c hc=>(g.kids.good c hc).1.few (g.full c hc))
  rw [ys] at hl
  rw [Tr.blocks_succ,Tr.ents_succ,List.length_cons]
  omega
theorem Tr.Good.many:∀{h:Nat} {t:Tr h},t.Good→3≤t.items.length→3^(h+1)≤2*t.blocks.length+1
 |0,t,_,hl=>by show 3≤2*1+1;omega
 |h+1,t,g,hl=>by
  have:=fg (3^(h+1)) t.2 (fun c hc=>(g.kids.good c hc).1.many (g.full c hc))
  rw [ys] at hl
  rw [Tr.blocks_succ,List.length_cons,Nat.pow_succ,Nat.mul_comm]
  have h2:3*3^(h+1)-3≤t.2.length*3^(h+1)-t.2.length:=by
   rw [←Nat.mul_sub_one,←Nat.mul_sub_one]
   exact Nat.mul_le_mul_right _ hl
  have h3:t.2.length≤t.2.length*3^(h+1):=Nat.le_mul_of_pos_right _ (Nat.pow_pos (by omega))
  have h4:3≤3*3^(h+1):=Nat.le_mul_of_pos_right _ (Nat.pow_pos (by omega))
  omega
def qQ:Pl:=⟨⟨#[]⟩,0⟩
structure Tr.Root {h:Nat} (t:Tr h):Prop where
 good:t.Good
 hi:t.items.length≤6
 one:1≤t.items.length
 two:0<h→2≤t.items.length
 first:t.First qQ
 srt:yg t.ents
theorem Tr.Root.few:∀{h:Nat} {t:Tr h},t.Root→2*t.blocks.length≤t.ents.length+1
 |0,t,r=>by have:=r.one;show 2*1≤t.2.length+1;have h2:t.2.length=t.items.length:=rfl;omega
 |h+1,t,r=>by
  have:=kV t.2 (fun c hc=>(r.good.kids.good c hc).1.few (r.good.full c hc))
  have hl:=r.two (by omega)
  rw [ys] at hl
  rw [Tr.blocks_succ,Tr.ents_succ,List.length_cons]
  omega
theorem Tr.Root.many:∀{h:Nat} {t:Tr h},t.Root→3^h≤t.blocks.length
 |0,t,r=>by show 1≤1;omega
 |h+1,t,r=>by
  have:=fg (3^(h+1)) t.2 (fun c hc=>(r.good.kids.good c hc).1.many (r.good.full c hc))
  have hl:=r.two (by omega)
  rw [ys] at hl
  rw [Tr.blocks_succ,List.length_cons]
  have h2:2*3^(h+1)-2≤t.2.length*3^(h+1)-t.2.length:=by
   rw [←Nat.mul_sub_one,←Nat.mul_sub_one]
   exact Nat.mul_le_mul_right _ hl
  have h3:t.2.length≤t.2.length*3^(h+1):=Nat.le_mul_of_pos_right _ (Nat.pow_pos (by omega))
  have h4:2≤2*3^(h+1):=Nat.le_mul_of_pos_right _ (Nat.pow_pos (by omega))
  omega
theorem Tr.Root.low{h:Nat}{t:Tr h}(r:t.Root)(hb:t.blocks.length≤979):h≤6:=by
 have:=r.many
 by_cases h7:h≤6
 ·exact h7
 ·have:3^7≤3^h:=Nat.pow_le_pow_right (by omega) (by omega)
  have h8:(3:Nat)^7=2187:=by decide
  omega
theorem KB(h:Nat):h+1≤3^h:=by
 induction h with
 |zero=>decide
 |succ h ih=>rw [Nat.pow_succ];omega
end prog
end Go.Proofs.YtcoengihaobddaaGreatDoor

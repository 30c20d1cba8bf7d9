/- Part 27 of 34 of a proof: Add2, Put1, Open1, At2, Fre1, Fre2, Rem1, Rem2 -/
import Derived.Test.YtcoengihaobddaaGreatDoorJk26
import Derived.OwnWalk
set_option maxHeartbeats 8000000
set_option linter.unusedVariables false
set_option linter.unusedSimpArgs false
set_option maxRecDepth 8000
namespace Go.Proofs.YtcoengihaobddaaGreatDoor
open Go.ChangeShapes Go.WideShapes Go.ChangeAt Go.RowKit disk ref
namespace prog
open Go.MuLone
open keys (ze zd zr zn zu)
theorem YM(w:World)(bs bd:Nat)(S:Nat→Prop)(D:Dk)(k:Int)(hs:zK w bs k (some bd))(hd:zh w bd S D)(hn:¬S bs)(hr0:0≤D.reads)(hr1:D.reads≤4611686018427350000)(hps:D.ps=[])(hfu:zD D.fuse)(h64:64≤D.bs.length)(hN:D.bs.length≤1000)
 (tree n:Nat) (hb:yu (D.look 1) tree n) (hn9:n<4611686018427387904) (m:List UInt8) (hm:qn (D.look 2) m) (key:ByteArray) (mark:Bool) (P:Nat→Prop) (a:Option Addr) (cap:Nat) (l:List UInt8) (hby:zv w P a l) (hPS:∀j,P j→¬S j∧j≠bs) (hl:l.length≤300) (hc1:l.length≤cap) (hc2:cap≤9223372036854775807)
 (es:List En) (bl:List Nat) (f:Nat) (C1:Ck) (m1:List UInt8) (hbody:vd.body D.bs.length m (zx l)=(f,C1,m1)) (nb1:List Nat) (hBR:Zy D vd C1 m m1 f (zx l) nb1) (he:(⟨⟨key,(n:Int)+1⟩,mark,l.length,f⟩:En).Ok) (helow:¬(⟨key,(n:Int)+1⟩:Pl).lt qQ=true)
 (hF:ya (fun j=>C1.look D (j:Nat)) tree es bl) (hnd:bl.Nodup) (htk:∀j∈bl,21≤j∧zO m1 (j-21)=true) (hbl:bl.length≤979) (hblN:∀j∈bl,j<D.bs.length) (hlow:∀x∈es,¬x.pl.lt qQ=true) (hne:∀x∈es,x.pl≠⟨key,(n:Int)+1⟩):
 Calls Tryz.prog 52 #[.pointer (some ⟨bs,0,none⟩),.string key,.slice a l.length cap,.bool mark] w fun e w'=>∃root' C2 m2 pb nb,vI D C1 C2 m1 m2 root' ⟨⟨key,(n:Int)+1⟩,mark,l.length,f⟩ es bl pb nb∧∃kk:Int,0≤kk∧kk≤19∧
  ((((C2.put 1 (zl (zp root' (n+1)))).full||decide (18<(C2.put 1 (zl (zp root' (n+1)))).ws.length))=true∧e=.returned (.tuple #[.int .i64 0,.int .i64 6])∧zh w' bd S {D with reads:=D.reads+kk}∧Kept (fun j=>j=bd) w w')∨
   (((C2.put 1 (zl (zp root' (n+1)))).full||decide (18<(C2.put 1 (zl (zp root' (n+1)))).ws.length))=false∧∃v c,e=.returned (.tuple #[.int .i64 v,.int .i64 c])∧(c=0→v=(n:Int)+1)∧(c≠0→v=0)∧(∀p∈(C2.put 1 (zl (zp root' (n+1)))).ws,p.1<D.bs.length)∧di w w' bs bd k S (zX {D with reads:=D.reads+kk} (C2.put 1 (zl (zp root' (n+1)))).ws) c)):=by
 have HS:Hid _:=hs
 have HD:Hid (zh w bd S D):=hd
 have HB:Hid (yu (D.look 1) tree n):=hb
 have HM:Hid (qn (D.look 2) m):=hm
 have HBY:Hid (zv w P a l):=hby
 have HPS:Hid (∀j,P j→¬S j∧j≠bs):=hPS
 have HBODY:Hid (vd.body D.bs.length m (zx l)=(f,C1,m1)):=hbody
 have HBR0:Hid (Zy D vd C1 m m1 f (zx l) nb1):=hBR
 have HF:Hid (ya (fun j=>C1.look D (j:Nat)) tree es bl):=hF
 have HHE:Hid ((⟨⟨key,(n:Int)+1⟩,mark,l.length,f⟩:En).Ok):=he
 have HHL:Hid (¬(⟨key,(n:Int)+1⟩:Pl).lt qQ=true):=helow
 have HND:Hid bl.Nodup:=hnd
 have HTK:Hid (∀j∈bl,21≤j∧zO m1 (j-21)=true):=htk
 have HLOW:Hid (∀x∈es,¬x.pl.lt qQ=true):=hlow
 have HNE:Hid (∀x∈es,x.pl≠⟨key,(n:Int)+1⟩):=hne
 have HBLN:Hid (∀j∈bl,j<D.bs.length):=hblN
 have HPS0:Hid (D.ps=[]):=hps
 have HFU:Hid (zD D.fuse):=hfu
 have c2:w.cell? ⟨bs,2,none⟩=some (.pointer (some ⟨bd,0,none⟩)):=hs.c2
 have hbd:bd<w.heap.size:=hd.lt bd hd.bdS
 have HSL:Hid (∀j,S j→j<w.heap.size):=hd.lt
 have hbs:=hs.lt
 have hr1':=hr1
 clear hs hd hb hm hby hPS hbody hBR hF he helow hnd htk hlow hne hps hfu hblN
 go_enter Tryz.func52,Tryz.ntmps52
 go_wp2_with fail
 refine(dy w bd hbd).mono ?_
 rintro e w1 ⟨rfl,hch1,hk1⟩
 have HK1:Hid (Kept (fun _=>False) w w1):=hk1
 have HC1:Hid (Cw w1 w.heap.size bd S (fun j=>j=w.heap.size) D vd):=⟨HD.out.kept hk1 nF,hch1,fun j hj hT=>by have:=HSL.out j hj;omega⟩
 clear hch1 hk1 c2
 go_wp2_with fail
 refine(dF w1 w.heap.size bd S _ D vd HC1.out hr0 (by omega) tree n (by rw [yo];exact HB.out)).mono ?_
 rintro e w2 ⟨rfl,⟨k2,hk20,hk21,hc2'⟩,hk2⟩
 have HC2:Hid (Cw w2 w.heap.size bd S (fun j=>j=w.heap.size) {D with reads:=D.reads+k2} vd):=hc2'
 have HK2:Hid (Kept (fun i=>i=bd) w1 w2):=hk2
 have hz2:=hk2.size
 have hz1:=HK1.out.size
 clear hc2' hk2
 go_wp2_with fail
 have HBR:Hid ((w2.alloc (.cells #[.int .i64 (tree:Int),.int .i64 ((n:Int)+1)] 145)).heap[w2.heap.size]? =some (.cells #[.int .i64 (tree:Int),.int .i64 ((n:Int)+1)] 145 (0,0))):=heap_alloc_new w2 _
 have HKW:Hid (Kept (fun _=>False) w2 (w2.alloc (.cells #[.int .i64 (tree:Int),.int .i64 ((n:Int)+1)] 145))):=Kept.alloc _ _ _
 have hsW:(w2.alloc (.cells #[.int .i64 (tree:Int),.int .i64 ((n:Int)+1)] 145)).heap.size=w2.heap.size+1:=by simp
 generalize (w2.alloc (.cells #[.int .i64 (tree:Int),.int .i64 ((n:Int)+1)] 145))=W at*
 have hbc:w.heap.size<w1.heap.size:=HC1.out.chg.lt _ rfl
 have HKwW:Hid (Kept (fun i=>i=bd) w W):=((HK1.out.mono fE).trans HK2.out iL).trans HKW.out fE
 have HBYW:Hid (zv W (fun j=>P j∧j<w.heap.size) a l):=(HBY.out.mono (fun i h1 h2=>⟨h1,h2⟩)).kept HKwW.out (fun j hj e0=>(HPS.out j hj.1).1 (by rw [e0];exact HD.out.bdS))
 have HBW:Hid (∀u,Kept (fun _=>False) W u→Calls Tryz.prog 75 #[.pointer (some ⟨w.heap.size,0,none⟩),.slice a l.length cap] u fun e w'=>e=.returned (.int .i64 (f:Int))∧(∃(n:Int) (T':Nat→Prop),0≤n∧n≤3∧Cw w' w.heap.size bd S T' {D with reads:=D.reads+k2+n} C1∧∀j,T' j→j=w.heap.size∨u.heap.size≤j)∧Kept (fun j=>j=bd∨j=w.heap.size) u w'):=fun u hu=>
  Q5 u w.heap.size bd S (fun j=>j=w.heap.size) {D with reads:=D.reads+k2} vd ((HC2.out.kept0 HKW.out).kept0 hu) m (by rw [yo];exact HM.out) (by show 0≤D.reads+k2;omega) (by show D.reads+k2≤_;omega) (fun j=>P j∧j<w.heap.size) a cap l (HBYW.out.kept hu nF) (fun j hj e0=>by omega) (fun j hj e0=>(HPS.out j hj.1).1 (by rw [e0];exact HD.out.bdS)) hl hc1 hc2 hN (by show 0<600;omega) f C1 m1 HBODY.out
 have HKZ:Hid (Kept (fun _=>False) W (W.alloc (.cells #[.string ⟨#[]⟩,.int .i64 0,.bool false,.int .i64 0,.int .i64 0] 109)).drew):=(Kept.alloc _ _ _).trans (Kept.drew _ _) iL
 have hsX:(W.alloc (.cells #[.string ⟨#[]⟩,.int .i64 0,.bool false,.int .i64 0,.int .i64 0] 109)).heap.size=W.heap.size+1:=by simp
 have hsX':(W.alloc (.cells #[.string ⟨#[]⟩,.int .i64 0,.bool false,.int .i64 0,.int .i64 0] 109)).drew.heap.size=W.heap.size+1:=hsX
 have hsD:W.drew.heap.size=W.heap.size:=rfl
 have z1:W.cell? ⟨w2.heap.size,1,none⟩=some (.int .i64 ((n:Int)+1)):=cR HBR.out rfl
 have ne1:¬w2.heap.size=W.heap.size:=by omega
 have ne1':¬W.heap.size=w2.heap.size:=by omega
 have HNB:Hid (∀j,w2.heap.size≤j→¬(j=bd∨j=w.heap.size)):=fun j hj hc=>by omega
 have HSW:Hid (W.heap.size=w2.heap.size+1):=hsW
 clear hsW
 go_region_held3 (fun w'=>w'.cell? ⟨w2.heap.size,1,none⟩=some (.int .i64 ((n:Int)+1))) (go_keep) ((go_at_call 75;have hsW:=HSW.out;first
  |(refine(HBW.out W.drew (Kept.drew (fun _=>False) W)).mono ?_;rintro r w4 ⟨rfl,⟨n4,T4,hn40,hn4M,hc4,hT4⟩,hk4⟩;have HC4:Hid (Cw w4 w.heap.size bd S T4 {D with reads:=D.reads+k2+n4} C1):=hc4;have HT4:Hid (∀j,T4 j→j=w.heap.size∨W.drew.heap.size≤j):=hT4;have HK4:Hid (Kept (fun j=>j=bd∨j=w.heap.size) W.drew w4):=hk4;have hsz4:W.drew.heap.size≤w4.heap.size:=hk4.size;have HK34:Hid (Kept (fun j=>j=bd∨j=w.heap.size) W w4):=((Kept.drew (fun _=>False) W).mono fE).trans hk4 iL;have HR4:Hid (w4.heap[w2.heap.size]? =some (.cells #[.int .i64 (tree:Int),.int .i64 ((n:Int)+1)] 145 (0,0))):=(HK34.out.block _ (show w2.heap.size<W.heap.size by omega) (HNB.out _ (Nat.le_refl _))).trans HBR.out;have z41:w4.cell? ⟨w2.heap.size,1,none⟩=some (.int .i64 ((n:Int)+1)):=(cR HR4.out rfl);have ne4:¬w2.heap.size=w4.heap.size:=(by have:W.heap.size≤w4.heap.size:=HK34.out.size;omega);clear hc4 hT4 hk4 hsW)
  |(refine(HBW.out (W.alloc (.cells #[.string ⟨#[]⟩,.int .i64 0,.bool false,.int .i64 0,.int .i64 0] 109)).drew HKZ.out).mono ?_;rintro r w4 ⟨rfl,⟨n4,T4,hn40,hn4M,hc4,hT4⟩,hk4⟩;have HC4:Hid (Cw w4 w.heap.size bd S T4 {D with reads:=D.reads+k2+n4} C1):=hc4;have HT4:Hid (∀j,T4 j→j=w.heap.size∨(W.alloc (.cells #[.string ⟨#[]⟩,.int .i64 0,.bool false,.int .i64 0,.int .i64 0] 109)).drew.heap.size≤j):=hT4;have HK4:Hid (Kept (fun j=>j=bd∨j=w.heap.size) (W.alloc (.cells #[.string ⟨#[]⟩,.int .i64 0,.bool false,.int .i64 0,.int .i64 0] 109)).drew w4):=hk4;have hsz4:(W.alloc (.cells #[.string ⟨#[]⟩,.int .i64 0,.bool false,.int .i64 0,.int .i64 0] 109)).drew.heap.size≤w4.heap.size:=hk4.size;have HK34:Hid (Kept (fun j=>j=bd∨j=w.heap.size) W w4):=((HKZ.out).mono fE).trans hk4 iL;have HR4:Hid (w4.heap[w2.heap.size]? =some (.cells #[.int .i64 (tree:Int),.int .i64 ((n:Int)+1)] 145 (0,0))):=(HK34.out.block _ (show w2.heap.size<W.heap.size by omega) (HNB.out _ (Nat.le_refl _))).trans HBR.out;have z41:w4.cell? ⟨w2.heap.size,1,none⟩=some (.int .i64 ((n:Int)+1)):=(cR HR4.out rfl);have ne4:¬w2.heap.size=w4.heap.size:=(by have:W.heap.size≤w4.heap.size:=HK34.out.size;omega);have HZ4:Hid (w4.heap[W.heap.size]? =some (.cells #[.string ⟨#[]⟩,.int .i64 0,.bool false,.int .i64 0,.int .i64 0] 109 (0,0))):=(hk4.block W.heap.size (show W.heap.size<(W.alloc (.cells #[.string ⟨#[]⟩,.int .i64 0,.bool false,.int .i64 0,.int .i64 0] 109)).heap.size by rw [hsX];omega) (HNB.out _ (show w2.heap.size≤W.heap.size by omega))).trans (heap_alloc_new W _);have zz0:w4.cell? ⟨W.heap.size,0,none⟩=some (.string ⟨#[]⟩):=(cR HZ4.out rfl);have zf0:=frozen_of_row w4 W.heap.size 0 _ _ HZ4.out;have zz1:w4.cell? ⟨W.heap.size,1,none⟩=some (.int .i64 0):=(cR HZ4.out rfl);have zf1:=frozen_of_row w4 W.heap.size 1 _ _ HZ4.out;have zz2:w4.cell? ⟨W.heap.size,2,none⟩=some (.bool false):=(cR HZ4.out rfl);have zf2:=frozen_of_row w4 W.heap.size 2 _ _ HZ4.out;have zz3:w4.cell? ⟨W.heap.size,3,none⟩=some (.int .i64 0):=(cR HZ4.out rfl);have zf3:=frozen_of_row w4 W.heap.size 3 _ _ HZ4.out;have zz4:w4.cell? ⟨W.heap.size,4,none⟩=some (.int .i64 0):=(cR HZ4.out rfl);have zf4:=frozen_of_row w4 W.heap.size 4 _ _ HZ4.out;clear hc4 hT4 hk4 hsW)))
 case' refine_2.refine_3.refine_3.refine_3.refine_3.refine_3.refine_3.refine_3.refine_3.refine_3.refine_1.refine_2.refine_3.refine_1.refine_2.refine_1.refine_2=>
  have hsW:=HSW.out
  have hsK:=HK34.out.size
  have HBE:Hid ((w4.alloc (.cells #[.string key,.int .i64 ((n:Int)+1),.bool mark,.int .i64 (l.length:Int),.int .i64 (f:Int)] 109)).heap[w4.heap.size]? =some (.cells #[.string key,.int .i64 ((n:Int)+1),.bool mark,.int .i64 (l.length:Int),.int .i64 (f:Int)] 109 (0,0))):=heap_alloc_new w4 _
  have HBRX:Hid ((w4.alloc (.cells #[.string key,.int .i64 ((n:Int)+1),.bool mark,.int .i64 (l.length:Int),.int .i64 (f:Int)] 109)).heap[w2.heap.size]? =some (.cells #[.int .i64 (tree:Int),.int .i64 ((n:Int)+1)] 145 (0,0))):=((Kept.alloc (fun _=>False) w4 _).block _ (by omega) id).trans HR4.out
  have HCX:Hid (Cw (w4.alloc (.cells #[.string key,.int .i64 ((n:Int)+1),.bool mark,.int .i64 (l.length:Int),.int .i64 (f:Int)] 109)) w.heap.size bd S T4 {D with reads:=D.reads+k2+n4} C1):=HC4.out.kept0 (Kept.alloc _ _ _)
  have HKX:Hid (Kept (fun j=>j=bd) w (w4.alloc (.cells #[.string key,.int .i64 ((n:Int)+1),.bool mark,.int .i64 (l.length:Int),.int .i64 (f:Int)] 109))):=(HKwW.out.trans HK34.out (fun j hj=>hj.elim .inl (fun h=>.inr (by omega)))).trans (Kept.alloc (fun _=>False) _ _) fE
  have HTX:Hid (∀j,T4 j→w.heap.size≤j∧j≠w4.heap.size∧j≠w2.heap.size):=fun j hj=>by
   have h1:=HC4.out.chg.lt j hj
   rcases HT4.out j hj with h2|h2
   ·omega
   ·have h3:W.heap.size≤j:=h2
    omega
  have hXs:(w4.alloc (.cells #[.string key,.int .i64 ((n:Int)+1),.bool mark,.int .i64 (l.length:Int),.int .i64 (f:Int)] 109)).heap.size=w4.heap.size+1:=by simp
  have hbe0:w2.heap.size<w4.heap.size∧w4.heap.size<(w4.alloc (.cells #[.string key,.int .i64 ((n:Int)+1),.bool mark,.int .i64 (l.length:Int),.int .i64 (f:Int)] 109)).heap.size:=by omega
  clear hsW hsK hXs
  generalize (w4.alloc (.cells #[.string key,.int .i64 ((n:Int)+1),.bool mark,.int .i64 (l.length:Int),.int .i64 (f:Int)] 109))=X at*
  generalize w4.heap.size=be at*
  clear HC4 HT4 HK4 HK34 HR4 z41 ne4 hsz4
 case' refine_2.refine_3.refine_3.refine_3.refine_3.refine_3.refine_3.refine_3.refine_3.refine_3.refine_2.refine_1.refine_2.refine_1.refine_2.refine_3.refine_1.refine_2=>
  have hsW:=HSW.out
  have hsK:=HK34.out.size
  obtain⟨hh5,kS5⟩:=jD w4 W.heap.size 109 _ _ _ _ _ (.string key) (.int .i64 ((n:Int)+1)) (.bool mark) (.int .i64 (l.length:Int)) (.int .i64 (f:Int)) HZ4.out
  have HBE:Hid ((((((w4.setCell ⟨W.heap.size,0,none⟩ (.string key)).setCell ⟨W.heap.size,1,none⟩ (.int .i64 ((n:Int)+1))).setCell ⟨W.heap.size,2,none⟩ (.bool mark)).setCell ⟨W.heap.size,3,none⟩ (.int .i64 (l.length:Int))).setCell ⟨W.heap.size,4,none⟩ (.int .i64 (f:Int))).heap[W.heap.size]? =some (.cells #[.string key,.int .i64 ((n:Int)+1),.bool mark,.int .i64 (l.length:Int),.int .i64 (f:Int)] 109 (0,0))):=hh5
  have HBRX:Hid ((((((w4.setCell ⟨W.heap.size,0,none⟩ (.string key)).setCell ⟨W.heap.size,1,none⟩ (.int .i64 ((n:Int)+1))).setCell ⟨W.heap.size,2,none⟩ (.bool mark)).setCell ⟨W.heap.size,3,none⟩ (.int .i64 (l.length:Int))).setCell ⟨W.heap.size,4,none⟩ (.int .i64 (f:Int))).heap[w2.heap.size]? =some (.cells #[.int .i64 (tree:Int),.int .i64 ((n:Int)+1)] 145 (0,0))):=(kS5.block _ (by omega) (by omega)).trans HR4.out
  have HTX0:∀j,T4 j→w.heap.size≤j∧j≠W.heap.size∧j≠w2.heap.size:=fun j hj=>by
   rcases HT4.out j hj with h2|h2
   ·omega
   ·have h3:(W.alloc (.cells #[.string ⟨#[]⟩,.int .i64 0,.bool false,.int .i64 0,.int .i64 0] 109)).heap.size≤j:=h2
    omega
  have HTX:Hid (∀j,T4 j→w.heap.size≤j∧j≠W.heap.size∧j≠w2.heap.size):=HTX0
  have HCX:Hid (Cw (((((w4.setCell ⟨W.heap.size,0,none⟩ (.string key)).setCell ⟨W.heap.size,1,none⟩ (.int .i64 ((n:Int)+1))).setCell ⟨W.heap.size,2,none⟩ (.bool mark)).setCell ⟨W.heap.size,3,none⟩ (.int .i64 (l.length:Int))).setCell ⟨W.heap.size,4,none⟩ (.int .i64 (f:Int))) w.heap.size bd S T4 {D with reads:=D.reads+k2+n4} C1):=HC4.out.kept kS5 (fun j hj e0=>by have:=HSL.out j hj;omega) (fun j hj e0=>(HTX0 j hj).2.1 e0)
  have HKX:Hid (Kept (fun j=>j=bd) w (((((w4.setCell ⟨W.heap.size,0,none⟩ (.string key)).setCell ⟨W.heap.size,1,none⟩ (.int .i64 ((n:Int)+1))).setCell ⟨W.heap.size,2,none⟩ (.bool mark)).setCell ⟨W.heap.size,3,none⟩ (.int .i64 (l.length:Int))).setCell ⟨W.heap.size,4,none⟩ (.int .i64 (f:Int)))):=(HKwW.out.trans HK34.out (fun j hj=>hj.elim .inl (fun h=>.inr (by omega)))).trans kS5 (fun j hj=>.inr (by omega))
  have hXs:=kS5.size
  have hbe0:w2.heap.size<W.heap.size∧W.heap.size<(((((w4.setCell ⟨W.heap.size,0,none⟩ (.string key)).setCell ⟨W.heap.size,1,none⟩ (.int .i64 ((n:Int)+1))).setCell ⟨W.heap.size,2,none⟩ (.bool mark)).setCell ⟨W.heap.size,3,none⟩ (.int .i64 (l.length:Int))).setCell ⟨W.heap.size,4,none⟩ (.int .i64 (f:Int))).heap.size:=by
   have:=(lT HZ4.out)
   omega
  clear hsW hsK hXs hh5 kS5 HTX0
  generalize (((((w4.setCell ⟨W.heap.size,0,none⟩ (.string key)).setCell ⟨W.heap.size,1,none⟩ (.int .i64 ((n:Int)+1))).setCell ⟨W.heap.size,2,none⟩ (.bool mark)).setCell ⟨W.heap.size,3,none⟩ (.int .i64 (l.length:Int))).setCell ⟨W.heap.size,4,none⟩ (.int .i64 (f:Int)))=X at*
  clear HC4 HT4 HK4 HK34 HR4 HZ4 z41 ne4 hsz4 zz0 zz1 zz2 zz3 zz4 zf0 zf1 zf2 zf3 zf4
  clear HBW HKZ hsX hsX' hsD z1 ne1 ne1' HSW HBR HKW HKwW HBYW
  generalize W.heap.size=be at*
 all_goals
  have q0:X.cell? ⟨w2.heap.size,0,none⟩=some (.int .i64 (tree:Int)):=cR HBRX.out rfl
  have e0:X.cell? ⟨be,0,none⟩=some (.string key):=cR HBE.out rfl
  have e1:X.cell? ⟨be,1,none⟩=some (.int .i64 ((n:Int)+1)):=cR HBE.out rfl
  have e2:X.cell? ⟨be,2,none⟩=some (.bool mark):=cR HBE.out rfl
  have e3:X.cell? ⟨be,3,none⟩=some (.int .i64 (l.length:Int)):=cR HBE.out rfl
  have e4:X.cell? ⟨be,4,none⟩=some (.int .i64 (f:Int)):=cR HBE.out rfl
  go_wp2_with fail
 all_goals
  have hw1:C1.ws.length<500:=by
   have h1:=fp (C:=vd) (D:=D) (m:=m) (by rw [yo];exact HM.out) hN (zx l) f C1 m1 HBODY.out
   have h2:=h1.2.1
   have h3:vd.ws.length=0:=rfl
   rw [yB] at h2
   omega
  obtain⟨root',C2,m2,pb,nb,R,K⟩:=Zs w.heap.size bd S T4 D hN ⟨⟨key,(n:Int)+1⟩,mark,l.length,f⟩ HHE.out HHL.out C1 m1 tree es bl HF.out HND.out HTK.out hbl HBR0.out.chn HLOW.out HNE.out hw1
  have HR:Hid (vI D C1 C2 m1 m2 root' ⟨⟨key,(n:Int)+1⟩,mark,l.length,f⟩ es bl pb nb):=R
  have hrl:=R.lt
  have hw2:C2.ws.length<800:=by have:=R.few;omega
  clear R hw1
  refine(K.go X (D.reads+k2+n4) (by omega) (by omega) HCX.out).mono ?_
  clear K
  rintro x u5 ⟨rfl,⟨n5,T5,hn50,hn51,hc5,hT5⟩,hk5⟩
  have HC5:Hid (Cw u5 w.heap.size bd S T5 {D with reads:=D.reads+k2+n4+n5} C2):=hc5
  have HT5:Hid (∀j,T5 j→T4 j∨X.heap.size≤j):=hT5
  have HK5:Hid (Kept (fun j=>j=bd∨T4 j) X u5):=hk5
  have hz5:=hk5.size
  have nT4:¬(w2.heap.size=bd∨T4 w2.heap.size):=fun hc=>by
   rcases hc with h|h
   ·omega
   ·exact(HTX.out _ h).2.2 rfl
  have HB5:Hid (u5.heap[w2.heap.size]? =some (.cells #[.int .i64 (tree:Int),.int .i64 ((n:Int)+1)] 145 (0,0))):=(hk5.block _ (by omega) nT4).trans HBRX.out
  have p0:u5.cell? ⟨w2.heap.size,0,none⟩=some (.int .i64 (tree:Int)):=cR HB5.out rfl
  have f0:u5.frozen? ⟨w2.heap.size,0,none⟩=false:=frozen_of_row u5 w2.heap.size 0 _ _ HB5.out
  have HB6:Hid ((u5.setCell ⟨w2.heap.size,0,none⟩ (.int .i64 (root':Int))).heap[w2.heap.size]? =some (.cells #[.int .i64 (root':Int),.int .i64 ((n:Int)+1)] 145 (0,0))):=heap_setCell_same u5 w2.heap.size 0 _ _ (.int .i64 (root':Int)) HB5.out
  have HK6:Hid (Kept (fun j=>j=w2.heap.size) u5 (u5.setCell ⟨w2.heap.size,0,none⟩ (.int .i64 (root':Int)))):=Kept.setCell (S:=fun j=>j=w2.heap.size) u5 ⟨w2.heap.size,0,none⟩ (.int .i64 (root':Int)) rfl
  have y0:(u5.setCell ⟨w2.heap.size,0,none⟩ (.int .i64 (root':Int))).cell? ⟨w2.heap.size,0,none⟩=some (.int .i64 (root':Int)):=cR HB6.out rfl
  have y1:(u5.setCell ⟨w2.heap.size,0,none⟩ (.int .i64 (root':Int))).cell? ⟨w2.heap.size,1,none⟩=some (.int .i64 ((n:Int)+1)):=cR HB6.out rfl
  have hz6:(u5.setCell ⟨w2.heap.size,0,none⟩ (.int .i64 (root':Int))).heap.size=u5.heap.size:=by simp
  have nT5:∀j,T5 j→j≠w2.heap.size∧w.heap.size≤j:=fun j hj=>by
   rcases HT5.out j hj with h|h
   ·have:=HTX.out j h;omega
   ·omega
  have HNT5:Hid (∀j,T5 j→j≠w2.heap.size∧w.heap.size≤j):=nT5
  have HC6:Hid (Cw (u5.setCell ⟨w2.heap.size,0,none⟩ (.int .i64 (root':Int))) w.heap.size bd S T5 {D with reads:=D.reads+k2+n4+n5} C2):=HC5.out.kept HK6.out (fun j hj e0=>by have:=HSL.out j hj;omega) (fun j hj e0=>(nT5 j hj).1 e0)
  clear hc5 hT5 hk5 nT4 nT5 e0 e1 e2 e3 e4 q0
  go_wp2_with fail
 all_goals
  have hcast:((n+1:Nat):Int)=(n:Int)+1:=by omega
  have hRW:=kJ (u5.setCell ⟨w2.heap.size,0,none⟩ (.int .i64 (root':Int))) w.heap.size bd S T5 {D with reads:=D.reads+k2+n4+n5} C2 HC6.out root' (n+1) hrl (by omega) (by omega)
  rw [hcast] at hRW
  clear hcast y0
  generalize (u5.setCell ⟨w2.heap.size,0,none⟩ (.int .i64 (root':Int)))=Y at*
  refine hRW.mono ?_
  clear hRW
  rintro x u7 ⟨rfl,⟨T7,hc7,hT7⟩,hk7⟩
  have HC7:Hid (Cw u7 w.heap.size bd S T7 {D with reads:=D.reads+k2+n4+n5} (C2.put 1 (zl (zp root' (n+1))))):=hc7
  have HT7:Hid (∀j,T7 j→T5 j∨Y.heap.size≤j):=hT7
  have HK7:Hid (Kept T5 Y u7):=hk7
  have hz7:=hk7.size
  have HB7:Hid (u7.heap[w2.heap.size]? =some (.cells #[.int .i64 (root':Int),.int .i64 ((n:Int)+1)] 145 (0,0))):=(hk7.block _ (by omega) (fun hc=>(HNT5.out _ hc).1 rfl)).trans HB6.out
  have HKEYS:Hid (∀k∈(C2.put 1 (zl (zp root' (n+1)))).keys,k<D.bs.length):=fun k hk=>by
   rcases (yI C2 1 _ k).1 hk with h|h
   ·rcases HR.out.stp.keys k h with h|h|h|h|h
    ·rcases HBR0.out.stp.keys k h with h|h|h|h|h
     ·exact nomatch h
     ·exact nomatch h
     ·exact(HBR0.out.stp.grew.fresh k h).2.1
     ·omega
     ·omega
    ·exact HBLN.out k (HR.out.sub k h)
    ·exact(HR.out.stp.grew.fresh k h).2.1
    ·omega
    ·omega
   ·omega
  have HKwY:Hid (Kept (fun j=>j=bd) w Y):=(HKX.out.trans HK5.out (fun j hj=>hj.elim .inl (fun h=>.inr (HTX.out j h).1))).trans HK6.out (fun j hj=>.inr (by omega))
  have HKw7:Hid (Kept (fun j=>j=bd) w u7):=HKwY.out.trans HK7.out (fun j hj=>.inr (HNT5.out j hj).2)
  clear hc7 hT7 hk7 y1 p0 f0
  generalize hC3:C2.put 1 (zl (zp root' (n+1)))=C3 at*
  cases hfull:(C3.full||decide (18<C3.ws.length)) with
  |true=>
   have HFUL:Hid ((C3.full||decide (18<C3.ws.length))=true):=hfull
   have HC3:Hid (C2.put 1 (zl (zp root' (n+1)))=C3):=hC3
   clear hfull hC3
   go_wp2_with (go_at_call 78;refine(ZJ u7 bs w.heap.size bd T7 C3 HC7.out.chg HFUL.out).mono ?_;rintro x w8 ⟨rfl,hw8⟩;rw [hw8];clear hw8 w8)
   refine bodyPost_ret (results_tmp2 rfl _ _ _) rfl ?_
   refine⟨root',C2,m2,pb,nb,HR.out,k2+n4+n5,by omega,by omega,.inl ⟨?_,rfl,?_,HKw7.out⟩⟩
   ·rw [HC3.out];exact HFUL.out
   ·have:=HC7.out.disk
    rw [Int.add_assoc,Int.add_assoc] at this
    rw [Int.add_assoc]
    exact this
  |false=>
   have HFUL:Hid ((C3.full||decide (18<C3.ws.length))=false):=hfull
   have HC3:Hid (C2.put 1 (zl (zp root' (n+1)))=C3):=hC3
   have h18:C3.ws.length≤18:=by
    simp only [Bool.or_eq_false_iff,decide_eq_false_iff_not] at hfull
    omega
   have HCM:Hid (Calls Tryz.prog 78 #[.pointer (some ⟨bs,0,none⟩),.pointer (some ⟨w.heap.size,0,none⟩)] u7 fun e w'=>∃c,e=.returned (.int .i64 c)∧di u7 w' bs bd k S (zX {D with reads:=D.reads+k2+n4+n5} C3.ws) c):=
    fB u7 bs w.heap.size bd k S T7 {D with reads:=D.reads+k2+n4+n5} C3 HC7.out (HS.out.kept HKw7.out (fun e=>hn (by rw [show bs=bd from e];exact HD.out.bdS))) hn hfull (fun p hp=>by have:=HKEYS.out p.1 (List.mem_map.2 ⟨p,hp,rfl⟩);omega) HFU.out (by show D.ps.length≤_;rw [HPS0.out];simp)
   have HRE:Hid (({D with reads:=D.reads+(k2+n4+n5)}:Dk)={D with reads:=D.reads+k2+n4+n5 }):=by show ({D with reads:=D.reads+(k2+n4+n5)}:Dk)=_;rw [Int.add_assoc k2 n4 n5,Int.add_assoc (D.reads+k2) n4 n5,Int.add_assoc D.reads k2]
   clear hfull hC3 h18
   have hl2:w2.heap.size<u7.heap.size:=by omega
   have HNS:Hid (¬(S w2.heap.size∨w2.heap.size=bs)):=fun h=>h.elim (fun h=>by have:=HSL.out _ h;omega) (fun h=>by have:=HS.out.lt;omega)
   have HBW:Hid (∀w8 c,di u7 w8 bs bd k S (zX {D with reads:=D.reads+k2+n4+n5} C3.ws) c→di w w8 bs bd k S (zX {D with reads:=D.reads+k2+n4+n5} C3.ws) c):=fun w8 c hcm=>
    ⟨hcm.code,hcm.sto,by obtain⟨S8,h1,h2⟩:=hcm.disk;exact⟨S8,h1,fun j hj=>(h2 j hj).imp id (fun h=>by have:=HKw7.out.size;omega)⟩,(HKw7.out.mono (fun j hj=>.inl (by rw [hj];exact HD.out.bdS))).trans hcm.kept iL⟩
   cases hb:(zX {D with reads:=D.reads+k2+n4+n5} C3.ws).1 with
   |true=>
    have HB1:Hid ((zX {D with reads:=D.reads+k2+n4+n5} C3.ws).1=true):=hb
    clear hb
    go_wp2_with (go_at_call 78;refine HCM.out.mono ?_;rintro x w8 ⟨c8,rfl,ho8⟩;obtain rfl:c8=0:=(by have h9:=ho8.code;rw [if_pos HB1.out] at h9;exact h9);have HO8:Hid _:=ho8;have HB8:Hid (w8.heap[w2.heap.size]? =_):=(ho8.kept.block _ hl2 HNS.out).trans HB7.out;have y8:w8.cell? ⟨w2.heap.size,1,none⟩=some (.int .i64 ((n:Int)+1)):=(cR HB8.out rfl);clear ho8)
    refine bodyPost_ret (results_tmp2 rfl _ _ _) rfl ?_
    refine⟨root',C2,m2,pb,nb,HR.out,k2+n4+n5,by omega,by omega,.inr ⟨?_,_,_,rfl,fun _=>rfl,fun h=>absurd rfl h,by rw [HC3.out];exact fun p hp=>HKEYS.out p.1 (List.mem_map.2 ⟨p,hp,rfl⟩),?_⟩⟩
    ·rw [HC3.out];exact HFUL.out
    ·rw [HC3.out,HRE.out]
     exact HBW.out w8 _ HO8.out
   |false=>
    have HB1:Hid ((zX {D with reads:=D.reads+k2+n4+n5} C3.ws).1=false):=hb
    clear hb
    go_wp2_with (go_at_call 78;refine HCM.out.mono ?_;rintro x w8 ⟨c8,rfl,ho8⟩;obtain rfl:c8=7:=(by have h9:=ho8.code;rw [if_neg (by rw [HB1.out];simp)] at h9;exact h9);have HO8:Hid _:=ho8;clear ho8)
    refine bodyPost_ret (results_tmp2 rfl _ _ _) rfl ?_
    refine⟨root',C2,m2,pb,nb,HR.out,k2+n4+n5,by omega,by omega,.inr ⟨?_,_,_,rfl,fun h=>by omega,fun _=>rfl,by rw [HC3.out];exact fun p hp=>HKEYS.out p.1 (List.mem_map.2 ⟨p,hp,rfl⟩),?_⟩⟩
    ·rw [HC3.out];exact HFUL.out
    ·rw [HC3.out,HRE.out]
     exact HBW.out w8 _ HO8.out
theorem di.onto{w w':World}{bs bd:Nat}{k:Int}{S:Nat→Prop}{D':Dk}{c:Int}(hs:zK w bs k (some bd))(h:di w w' bs bd k S (true,D') c):c=0∧qK w w' bd S D':=by
 refine⟨h.code,h.disk,h.kept.os,h.kept.tape,h.kept.output,h.kept.size,fun j hj hn=>?_⟩
 by_cases e:j=bs
 ·subst e
  exact h.sto.at_.trans hs.at_.symm
 ·exact h.kept.block j hj (fun hc=>hc.elim hn e)
theorem Yr(w:World)(bs bd:Nat)(S:Nat→Prop)(D:Dk)(k:Int)(hs:zK w bs k (some bd))(hd:zh w bd S D)(hn:¬S bs)(hr0:0≤D.reads)(hr1:D.reads≤4611686018427350000)(hps:D.ps=[])(hfu:D.fuse= -1)(h64:64≤D.bs.length)(hN:D.bs.length≤1000)
 (tree n:Nat) (hb:yu (D.look 1) tree n) (hn9:n<4611686018427387904) (m:List UInt8) (hm:qn (D.look 2) m) (key:ByteArray) (mark:Bool) (P:Nat→Prop) (a:Option Addr) (cap:Nat) (l:List UInt8) (hby:zv w P a l) (hPS:∀j,P j→¬S j∧j≠bs) (hl:l.length≤300) (hc1:l.length≤cap) (hc2:cap≤9223372036854775807)
 (es:List En) (bl:List Nat) (f:Nat) (C1:Ck) (m1:List UInt8) (hbody:vd.body D.bs.length m (zx l)=(f,C1,m1)) (nb1:List Nat) (hBR:Zy D vd C1 m m1 f (zx l) nb1) (he:(⟨⟨key,(n:Int)+1⟩,mark,l.length,f⟩:En).Ok) (helow:¬(⟨key,(n:Int)+1⟩:Pl).lt qQ=true)
 (hF:ya (fun j=>C1.look D (j:Nat)) tree es bl) (hnd:bl.Nodup) (htk:∀j∈bl,21≤j∧zO m1 (j-21)=true) (hbl:bl.length≤979) (hblN:∀j∈bl,j<D.bs.length) (hlow:∀x∈es,¬x.pl.lt qQ=true) (hne:∀x∈es,x.pl≠⟨key,(n:Int)+1⟩):
 Calls Tryz.prog 52 #[.pointer (some ⟨bs,0,none⟩),.string key,.slice a l.length cap,.bool mark] w fun e w'=>∃root' C2 m2 pb nb,vI D C1 C2 m1 m2 root' ⟨⟨key,(n:Int)+1⟩,mark,l.length,f⟩ es bl pb nb∧∃kk:Int,0≤kk∧kk≤19∧
  ((((C2.put 1 (zl (zp root' (n+1)))).full||decide (18<(C2.put 1 (zl (zp root' (n+1)))).ws.length))=true∧e=.returned (.tuple #[.int .i64 0,.int .i64 6])∧zh w' bd S {D with reads:=D.reads+kk}∧Kept (fun j=>j=bd) w w')∨
   (((C2.put 1 (zl (zp root' (n+1)))).full||decide (18<(C2.put 1 (zl (zp root' (n+1)))).ws.length))=false∧e=.returned (.tuple #[.int .i64 ((n:Int)+1),.int .i64 0])∧qK w w' bd S {D with bs:=vi D.bs (C2.put 1 (zl (zp root' (n+1)))).ws,reads:=D.reads+kk })):=by
 refine(YM w bs bd S D k hs hd hn hr0 hr1 hps (by rw [hfu];constructor<;>omega) h64 hN tree n hb hn9 m hm key mark P a cap l hby hPS hl hc1 hc2 es bl f C1 m1 hbody nb1 hBR he helow hF hnd htk hbl hblN hlow hne).mono ?_
 rintro e w' ⟨root',C2,m2,pb,nb,hI,kk,h0,h1,h⟩
 refine⟨root',C2,m2,pb,nb,hI,kk,h0,h1,h.imp id ?_⟩
 rintro⟨hf,v,c,rfl,hv,_,hkeys,hcm⟩
 have h18:(C2.put 1 (zl (zp root' (n+1)))).ws.length≤18:=by
  have:=hf
  simp only [Bool.or_eq_false_iff,decide_eq_false_iff_not] at this
  omega
 have hcn:=(QT (D:={D with reads:=D.reads+kk }) hfu hps (by show 21≤D.bs.length;omega) hkeys h18).2
 rw [hcn] at hcm
 obtain⟨rfl,ho⟩:=hcm.onto hs
 rw [hv rfl]
 exact⟨hf,rfl,ho⟩
theorem YN(w:World)(bs:Nat)(q:Option Nat)(hs:zK w bs 0 q)(key:ByteArray)(hk:key.size≤maxLen)(hkey:zu key.data.toList=false)(a:Option Addr)(n cap:Nat):
 Calls Tryz.prog 27 #[.pointer (some ⟨bs,0,none⟩),.string key,.slice a n cap] w fun e w'=>e=.returned (.tuple #[.int .i64 0,.int .i64 2])∧zK w' bs 0 q∧Kept (fun k=>k=bs) w w':=by
 have HS:Hid _:=hs
 have HKY:Hid (zu key.data.toList=false):=hkey
 clear hs hkey
 go_enter_defers Tryz.func27,Tryz.ntmps27
 go_wp2_with (first
  |(go_at_call 47;refine(qS HS.out).mono ?_;rintro e w1 ⟨rfl,hs1,hk1⟩;have HS1:Hid _:=hs1;have HK1:Hid (Kept (fun k=>k=bs) w w1):=hk1;clear hs1 hk1)
  |(go_at_call 49;refine(keys.qW key w1 hk).mono ?_;rintro e w2 ⟨rfl,hw2⟩;rw [hw2,HKY.out];clear hw2 w2))
 refine leaves_cons (f:= 48) (args:=#[.pointer (some ⟨bs,0,none⟩)]) (by simp) (by simp [go_sem]) ?_
 refine(qR HS1.out).mono ?_
 rintro e u' w2 ⟨rfl,rfl,hs2,hk2⟩
 exact⟨_,results_tmp2 Tryz.results27 _ _ _,rfl,hs2,HK1.out.trans hk2 iL⟩
theorem YO(w:World)(bs:Nat)(q:Option Nat)(hs:zK w bs 0 q)(key:ByteArray)(hk:key.size≤maxLen)(hkey:zu key.data.toList=true)(a:Option Addr)(n cap:Nat)(hn:300<n):
 Calls Tryz.prog 27 #[.pointer (some ⟨bs,0,none⟩),.string key,.slice a n cap] w fun e w'=>e=.returned (.tuple #[.int .i64 0,.int .i64 3])∧zK w' bs 0 q∧Kept (fun k=>k=bs) w w':=by
 have HS:Hid _:=hs
 have HKY:Hid (zu key.data.toList=true):=hkey
 have hnI:(300:Int)<(n:Int):=by omega
 clear hs hkey
 go_enter_defers Tryz.func27,Tryz.ntmps27
 go_wp2_with (first
  |(go_at_call 47;refine(qS HS.out).mono ?_;rintro e w1 ⟨rfl,hs1,hk1⟩;have HS1:Hid _:=hs1;have HK1:Hid (Kept (fun k=>k=bs) w w1):=hk1;clear hs1 hk1)
  |(go_at_call 49;refine(keys.qW key w1 hk).mono ?_;rintro e w2 ⟨rfl,hw2⟩;rw [hw2,HKY.out];clear hw2 w2))
 refine leaves_cons (f:= 48) (args:=#[.pointer (some ⟨bs,0,none⟩)]) (by simp) (by simp [go_sem]) ?_
 refine(qR HS1.out).mono ?_
 rintro e u' w2 ⟨rfl,rfl,hs2,hk2⟩
 exact⟨_,results_tmp2 Tryz.results27 _ _ _,rfl,hs2,HK1.out.trans hk2 iL⟩
theorem J3(w:World)(bs:Nat)(hs:zK w bs 0 none)(key:ByteArray)(hk:key.size≤maxLen)(hkey:zu key.data.toList=true)(a:Option Addr)(n cap:Nat)(hn:n≤300):
 Calls Tryz.prog 27 #[.pointer (some ⟨bs,0,none⟩),.string key,.slice a n cap] w fun e w'=>e=.returned (.tuple #[.int .i64 0,.int .i64 8])∧zK w' bs 0 none∧Kept (fun k=>k=bs) w w':=by
 have HS:Hid _:=hs
 have HKY:Hid (zu key.data.toList=true):=hkey
 have hnI:¬(300:Int)<(n:Int):=by omega
 clear hs hkey
 go_enter_defers Tryz.func27,Tryz.ntmps27
 go_wp2_with (first
  |(go_at_call 47;refine(qS HS.out).mono ?_;rintro e w1 ⟨rfl,hs1,hk1⟩;have HS1:Hid _:=hs1;have HK1:Hid (Kept (fun k=>k=bs) w w1):=hk1;have c2:w1.cell? ⟨bs,2,none⟩=some (.pointer none):=hs1.c2;clear hs1 hk1)
  |(go_at_call 49;refine(keys.qW key w1 hk).mono ?_;rintro e w2 ⟨rfl,hw2⟩;rw [hw2,HKY.out];clear hw2 w2))
 refine leaves_cons (f:= 48) (args:=#[.pointer (some ⟨bs,0,none⟩)]) (by simp) (by simp [go_sem]) ?_
 refine(qR HS1.out).mono ?_
 rintro e u' w2 ⟨rfl,rfl,hs2,hk2⟩
 exact⟨_,results_tmp2 Tryz.results27 _ _ _,rfl,hs2,HK1.out.trans hk2 iL⟩
structure uv (w w':World) (bs bd:Nat) (S:Nat→Prop) (D:Dk) (k:Int) (q:Option Nat):Prop where
 sto:zK w' bs k q
 disk:∃S',zh w' bd S' D∧∀k,S' k→S k∨w.heap.size≤k
 kept:Kept (fun k=>S k∨k=bs) w w'
theorem KI(w:World)(bs bd:Nat)(S:Nat→Prop)(D:Dk)(hs:zK w bs 0 (some bd))(hd:zh w bd S D)(hn:¬S bs)(key:ByteArray)(hk:key.size≤maxLen)(hkey:zu key.data.toList=true)(P:Nat→Prop)(a:Option Addr)(cap:Nat)(l:List UInt8)(hby:zv w P a l)(hPS:∀j,P j→¬S j∧j≠bs)(hl:l.length≤300)(Q:Int→Int→Dk→Option Nat→Prop)
 (hadd:∀w',zK w' bs 1 (some bd)→zh w' bd S D→zv w' P a l→Calls Tryz.prog 52 #[.pointer (some ⟨bs,0,none⟩),.string key,.slice a l.length cap,.bool false] w' fun e w''=>∃v c D' q,e=.returned (.tuple #[.int .i64 v,.int .i64 c])∧uv w' w'' bs bd S D' 1 q∧Q v c D' q):
 Calls Tryz.prog 27 #[.pointer (some ⟨bs,0,none⟩),.string key,.slice a l.length cap] w fun e w'=>∃v c D' q,e=.returned (.tuple #[.int .i64 v,.int .i64 c])∧Q v c D' q∧uv w w' bs bd S D' 0 q:=by
 have HS:Hid _:=hs
 have HD:Hid (zh w bd S D):=hd
 have HKY:Hid (zu key.data.toList=true):=hkey
 have HBY:Hid (zv w P a l):=hby
 have HPS:Hid (∀j,P j→¬S j∧j≠bs):=hPS
 have HN:Hid (∀j,S j→j≠bs):=fun j hj e=>hn (by rw [←e];exact hj)
 have HADD:Hid (∀w',zK w' bs 1 (some bd)→zh w' bd S D→zv w' P a l→Calls Tryz.prog 52 #[.pointer (some ⟨bs,0,none⟩),.string key,.slice a l.length cap,.bool false] w' fun e w''=>∃v c D' q,e=.returned (.tuple #[.int .i64 v,.int .i64 c])∧uv w' w'' bs bd S D' 1 q∧Q v c D' q):=hadd
 have hnI:¬(300:Int)<(l.length:Int):=by omega
 have hbs:=hs.lt
 clear hs hd hkey hby hPS hadd
 go_enter_defers Tryz.func27,Tryz.ntmps27
 go_wp2_with (first
  |(go_at_call 47;refine(qS HS.out).mono ?_;rintro e w1 ⟨rfl,hs1,hk1⟩;have HS1:Hid _:=hs1;have HK1:Hid (Kept (fun k=>k=bs) w w1):=hk1;have c2:w1.cell? ⟨bs,2,none⟩=some (.pointer (some ⟨bd,0,none⟩)):=hs1.c2;clear hs1 hk1)
  |(go_at_call 49;refine(keys.qW key w1 hk).mono ?_;rintro e w2 ⟨rfl,hw2⟩;rw [hw2,HKY.out];clear hw2 w2)
  |(go_at_call 52;refine(HADD.out w1 HS1.out (HD.out.kept HK1.out HN.out) (HBY.out.kept HK1.out (fun j hj e0=>(HPS.out j hj).2 e0))).mono ?_;rintro e w2 ⟨v,c,D',q,rfl,ho2,hq2⟩;have HO2:Hid (uv w1 w2 bs bd S D' 1 q):=ho2;have HQ2:PLift (Q v c D' q):=⟨hq2⟩;clear ho2 hq2))
 refine leaves_cons (f:= 48) (args:=#[.pointer (some ⟨bs,0,none⟩)]) (by simp) (by simp [go_sem]) ?_
 obtain⟨hst2,⟨S',hd2,hS2⟩,hk2⟩:=HO2.out
 refine(qR hst2).mono ?_
 rintro e u' w3 ⟨rfl,rfl,hs3,hk3⟩
 have hz:=HK1.out.size
 refine⟨_,results_tmp2 Tryz.results27 _ _ _,v,c,D',q,rfl,HQ2.down,hs3,⟨S',hd2.kept hk3 (fun j hj e0=>?_),fun j hj=>?_⟩,?_⟩
 ·rcases hS2 j hj with h|h
  ·exact HN.out j h e0
  ·have e1:j=bs:=e0;omega
 ·rcases hS2 j hj with h|h
  ·exact .inl h
  ·exact .inr (by omega)
 ·exact((HK1.out.mono (S':=fun k=>S k∨k=bs) (fun _ h=>.inr h)).trans hk2 iL).trans hk3 (fun _ h=>.inl (.inr h))
theorem fC(w:World)(bd:Nat)(S:Nat→Prop)(D:Dk)(h:zh w bd S D):Calls Tryz.prog 54 #[.pointer (some ⟨bd,0,none⟩)] w fun e w'=>e=.returned (.int .i64 D.bs.length)∧w'=w:=by
 obtain⟨ba,pa,bc,pc,h⟩:=h
 exact kK w bd S D ba pa bc pc h
theorem Q9(w:World)(bd:Nat)(S:Nat→Prop)(D:Dk)(hd:zh w bd S D)(hN:D.bs.length<64):
 Calls Tryz.prog 35 #[.pointer (some ⟨bd,0,none⟩)] w fun e w'=>e=.returned (.tuple #[.pointer none,.int .i64 1])∧w'=w:=by
 have HD:Hid (zh w bd S D):=hd
 have hI:(D.bs.length:Int)<64:=by omega
 clear hd
 go_enter Tryz.func35,Tryz.ntmps35
 go_wp2_with (go_at_call 54;refine(fC w bd S D HD.out).mono ?_;rintro e w1 ⟨rfl,hw1⟩;rw [hw1];clear hw1 w1)
 refine bodyPost_ret (results_tmp2 rfl _ _ _) rfl ?_
 exact⟨rfl,rfl⟩
theorem dK(w:World)(bd:Nat)(S:Nat→Prop)(D D':Dk)(hd:zh w bd S D)(hN:64≤D.bs.length)(hfin:Calls Tryz.prog 55 #[.pointer (some ⟨bd,0,none⟩)] w fun e w'=>e=.returned (.bool true)∧qK w w' bd S D'):
 Calls Tryz.prog 35 #[.pointer (some ⟨bd,0,none⟩)] w fun e w'=>∃bs,e=.returned (.tuple #[.pointer (some ⟨bs,0,none⟩),.int .i64 0])∧w.heap.size≤bs∧zK w' bs 0 (some bd)∧∃S',zh w' bd S' D'∧(∀k,S' k→S k∨w.heap.size≤k)∧¬S' bs∧Kept S w w':=by
 have HD:Hid (zh w bd S D):=hd
 have hI:¬(D.bs.length:Int)<64:=by omega
 have HFIN:Hid (Calls Tryz.prog 55 #[.pointer (some ⟨bd,0,none⟩)] w fun e w'=>e=.returned (.bool true)∧qK w w' bd S D'):=hfin
 clear hd hfin
 go_enter Tryz.func35,Tryz.ntmps35
 go_wp2_with (first
  |(go_at_call 54;refine(fC w bd S D HD.out).mono ?_;rintro e w1 ⟨rfl,hw1⟩;rw [hw1];clear hw1 w1)
  |(go_at_call 55;refine HFIN.out.mono ?_;rintro e w1 ⟨rfl,ho1⟩;have HO1:Hid _:=ho1;clear ho1))
 refine bodyPost_ret (results_tmp2 rfl _ _ _) rfl ?_
 obtain⟨⟨S',h1,h2⟩,h3⟩:=HO1.out
 have kA:=Kept.alloc (fun _=>False) w1 (.cells #[.int .i32 0,.int .u32 0,.pointer (some ⟨bd,0,none⟩)] 104)
 exact⟨w1.heap.size,rfl,h3.size,⟨heap_alloc_new w1 _⟩,S',h1.kept kA nF,h2,fun h=>by have:=h1.lt _ h;omega,h3.trans kA fE⟩
theorem fD(w:World)(bd:Nat)(S:Nat→Prop)(D D':Dk)(hd:zh w bd S D)(hN:64≤D.bs.length)(hfin:Calls Tryz.prog 55 #[.pointer (some ⟨bd,0,none⟩)] w fun e w'=>e=.returned (.bool false)∧qK w w' bd S D'):
 Calls Tryz.prog 35 #[.pointer (some ⟨bd,0,none⟩)] w fun e w'=>e=.returned (.tuple #[.pointer none,.int .i64 7])∧qK w w' bd S D':=by
 have HD:Hid (zh w bd S D):=hd
 have hI:¬(D.bs.length:Int)<64:=by omega
 have HFIN:Hid (Calls Tryz.prog 55 #[.pointer (some ⟨bd,0,none⟩)] w fun e w'=>e=.returned (.bool false)∧qK w w' bd S D'):=hfin
 clear hd hfin
 go_enter Tryz.func35,Tryz.ntmps35
 go_wp2_with (first
  |(go_at_call 54;refine(fC w bd S D HD.out).mono ?_;rintro e w1 ⟨rfl,hw1⟩;rw [hw1];clear hw1 w1)
  |(go_at_call 55;refine HFIN.out.mono ?_;rintro e w1 ⟨rfl,ho1⟩;have HO1:Hid _:=ho1;clear ho1))
 refine bodyPost_ret (results_tmp2 rfl _ _ _) rfl ?_
 exact⟨rfl,HO1.out⟩
theorem KJ(w:World)(bs bd:Nat)(S:Nat→Prop)(D:Dk)(hs:zK w bs 0 (some bd))(hd:zh w bd S D)(hn:¬S bs)(hr0:0≤D.reads)(hr1:D.reads≤4611686018427350000)(tree n:Nat)(hb:yu (D.look 1) tree n)(key:ByteArray)(num:Int)(hk:key.size≤maxLen)(hkey:zu key.data.toList=true)(es:List En)(bl:List Nat)(hF:ya (fun j=>D.look (j:Nat)) tree es bl)(hbl:bl.length≤979)(hbs:∀j∈bl,21≤j)(x:En)(ho:(yN ⟨key,num⟩ es).head? =some x)(hnew:JY key num (some x)=true)
 (ps:List zq) (hch:yp (fun j=>D.look (j:Nat)) ps) (hnd:(ps.map zq.at_).Nodup) (hhd:yA ps=x.at_) (l:List UInt8) (hl:(ps.map zq.l).flatten=l) (hsz:l.length=x.size) (hs3:x.size≤300) (hp:ps.length≤10):
 Calls Tryz.prog 42 #[.pointer (some ⟨bs,0,none⟩),.string key,.int .i64 num] w fun e w'=>(∃a cap,e=.returned (.tuple #[.slice a l.length cap,.int .i64 0])∧w'.ownsRow 0 5 1 (.slice a l.length cap) l.length (l.map qc)∧∀k,(Value.slice a l.length cap).ownBlock=some k→w.heap.size≤k)∧zK w' bs 0 (some bd)∧(∃r:Int,D.reads≤r∧r≤D.reads+14+ps.length∧zh w' bd S {D with reads:=r })∧Kept (fun k=>k=bd∨k=bs) w w':=by
 have HS:Hid _:=hs
 have HD:Hid (zh w bd S D):=hd
 have HKY:Hid (zu key.data.toList=true):=hkey
 have HNEW:Hid (JY key num (some x)=true):=hnew
 have hbd:bd<w.heap.size:=hd.lt bd hd.bdS
 have hbsl:=hs.lt
 have hne:bs≠bd:=fun e=>hn (by rw [e];exact hd.bdS)
 have HN:Hid (∀j,S j→j≠bs):=fun j hj e=>hn (by rw [←e];exact hj)
 have HNW:Hid (∀w',zK w' bs 1 (some bd)→zh w' bd S D→Calls Tryz.prog 66 #[.pointer (some ⟨bs,0,none⟩),.agg #[.string key,.int .i64 num]] w' fun e w''=>e=.returned (.tuple #[.agg (dh (some x)).toArray,.bool true])∧(∃r:Int,D.reads≤r∧r≤D.reads+14∧zh w'' bd S {D with reads:=r })∧Kept (fun i=>i=bd) w' w''):=fun w' h1 h2=>by
  have:=dI w' bs bd S D 1 h1 h2 hn hr0 (by omega) tree n hb ⟨key,num⟩ es bl hF hbl hbs
  rw [ho] at this;exact this
 have HBD:Hid (∀w' (r:Int),zK w' bs 1 (some bd)→zh w' bd S {D with reads:=r}→0≤r→r≤4611686018427360000→Calls Tryz.prog 51 #[.pointer (some ⟨bs,0,none⟩),.agg (qp x).toArray] w' fun y w''=>(∃a cap,y=.returned (.slice a l.length cap)∧w''.ownsRow 0 5 1 (.slice a l.length cap) l.length (l.map qc)∧∀j,(Value.slice a l.length cap).ownBlock=some j→w'.heap.size≤j)∧(∃r':Int,r≤r'∧r'≤r+ps.length∧zh w'' bd S {D with reads:=r' })∧Kept (fun i=>i=bd) w' w''):=fun w' r h1 h2 h3 h4=>vq w' bs bd S {D with reads:=r} 1 h1 h2 hn h3 h4 x ps hch hnd hhd l hl hsz hs3 (by omega)
 clear hs hd hb hF hbs ho hkey hnew hch hnd hhd hl hsz
 have hoE:dh (some x)=[.string x.pl.key,.int .i64 x.pl.num,.bool x.mark,.int .i64 (x.size:Int),.int .i64 (x.at_:Int)]:=rfl
 have HOE:Hid (dh (some x)=[.string x.pl.key,.int .i64 x.pl.num,.bool x.mark,.int .i64 (x.size:Int),.int .i64 (x.at_:Int)]):=hoE
 clear hoE
 have hx:x.pl.key=key∧x.pl.num=num∧x.mark=false:=by
  have:=HNEW.out
  simp [JY] at this
  exact⟨this.1.1,this.1.2,this.2⟩
 obtain⟨hx1,hx2,hx3⟩:=hx
 go_enter_defers Tryz.func42,Tryz.ntmps42
 go_wp2_with (first
  |(go_at_call 47;refine(qS HS.out).mono ?_;rintro e w1 ⟨rfl,hs1,hk1⟩;have HS1:Hid _:=hs1;have HK1:Hid (Kept (fun k=>k=bs) w w1):=hk1;have c2:w1.cell? ⟨bs,2,none⟩=some (.pointer (some ⟨bd,0,none⟩)):=hs1.c2;clear hs1 hk1)
  |(go_at_call 49;refine(keys.qW key w1 hk).mono ?_;rintro e w2 ⟨rfl,hw2⟩;rw [hw2,HKY.out];clear hw2 w2))
 have HK0:Hid (Kept (fun _=>False) w1 (w1.alloc (.cells #[.string key,.int .i64 num] 107))):=Kept.alloc _ _ _
 have HB0:Hid ((w1.alloc (.cells #[.string key,.int .i64 num] 107)).heap[w1.heap.size]? =some (.cells #[.string key,.int .i64 num] 107 (0,0))):=heap_alloc_new w1 _
 have hs0:(w1.alloc (.cells #[.string key,.int .i64 num] 107)).heap.size=w1.heap.size+1:=by simp
 generalize (w1.alloc (.cells #[.string key,.int .i64 num] 107))=W1 at*
 have hz1:=HK1.out.size
 refine(HNW.out W1 (HS1.out.kept HK0.out id) ((HD.out.kept HK1.out HN.out).kept HK0.out nF)).mono ?_
 rintro e w2 ⟨rfl,⟨r2,hr2a,hr2b,hd2⟩,hk2⟩
 have HD2:Hid (zh w2 bd S {D with reads:=r2 }):=hd2
 have HK2:Hid (Kept (fun i=>i=bd) W1 w2):=hk2
 have hz2:=hk2.size
 have HB2:Hid (w2.heap[w1.heap.size]? =_):=(hk2.block _ (by omega) (by omega)).trans HB0.out
 clear hd2 hk2
 rw [HOE.out]
 have HKA:Hid (Kept (fun _=>False) w2 (w2.alloc (.cells #[.string x.pl.key,.int .i64 x.pl.num,.bool x.mark,.int .i64 (x.size:Int),.int .i64 (x.at_:Int)] 109))):=Kept.alloc _ _ _
 have hsA:(w2.alloc (.cells #[.string x.pl.key,.int .i64 x.pl.num,.bool x.mark,.int .i64 (x.size:Int),.int .i64 (x.at_:Int)] 109)).heap.size=w2.heap.size+1:=by simp
 have q0:w2.cell? ⟨w1.heap.size,0,none⟩=some (.string key):=cR HB2.out rfl
 have q1:w2.cell? ⟨w1.heap.size,1,none⟩=some (.int .i64 num):=cR HB2.out rfl
 have hlt12:w1.heap.size<w2.heap.size:=by omega
 have hkb:(x.pl.key.toList==key.toList)=true:=by rw [hx1];simp
 have hnb:(x.pl.num==num)=true:=by rw [hx2];simp
 have HX1:Hid (x.pl.key=key):=hx1
 have HX2:Hid (x.pl.num=num):=hx2
 clear hx1 hx2
 have HSA:Hid (zK (w2.alloc (.cells #[.string x.pl.key,.int .i64 x.pl.num,.bool x.mark,.int .i64 (x.size:Int),.int .i64 (x.at_:Int)] 109)) bs 1 (some bd)):=((HS1.out.kept HK0.out id).kept HK2.out hne).kept HKA.out id
 have HDA:Hid (zh (w2.alloc (.cells #[.string x.pl.key,.int .i64 x.pl.num,.bool x.mark,.int .i64 (x.size:Int),.int .i64 (x.at_:Int)] 109)) bd S {D with reads:=r2 }):=HD2.out.kept HKA.out nF
 rw [hx3] at HKA HSA HDA hsA ⊢
 unfold qp at HBD
 rw [hx3] at HBD
 go_wp2_with fail
 refine(HBD.out _ r2 HSA.out HDA.out (by omega) (by omega)).mono ?_
 rintro e w4 ⟨⟨ba,bc,rfl,hown,hfr⟩,⟨r4,hr4a,hr4b,hd4⟩,hk4⟩
 have HOW:Hid _:=hown
 have HFR:Hid _:=hfr
 have HD4:Hid (zh w4 bd S {D with reads:=r4 }):=hd4
 have HK4:Hid (Kept (fun i=>i=bd) (w2.alloc (.cells #[.string x.pl.key,.int .i64 x.pl.num,.bool false,.int .i64 (x.size:Int),.int .i64 (x.at_:Int)] 109)) w4):=hk4
 clear hown hfr hd4 hk4
 go_wp2
 refine leaves_cons (f:= 48) (args:=#[.pointer (some ⟨bs,0,none⟩)]) (by simp) (by simp [go_sem]) ?_
 refine(qR (HSA.out.kept HK4.out hne)).mono ?_
 rintro e u' w5 ⟨rfl,rfl,hs5,hk5⟩
 refine⟨_,results_tmp2 rfl _ _ _,⟨ba,bc,rfl,hk5.owns HOW.out (fun j hj e0=>by have:=HFR.out j hj;omega),fun j hj=>by have:=HFR.out j hj;omega⟩,hs5,⟨r4,by omega,by omega,HD4.out.kept hk5 HN.out⟩,?_⟩
 exact(((((HK1.out.mono (S':=fun k=>k=bd∨k=bs) (fun _ h=>.inr h)).trans HK0.out fE).trans HK2.out (fun _ h=>.inl (.inl h))).trans HKA.out fE).trans HK4.out (fun _ h=>.inl (.inl h))).trans hk5 (fun _ h=>.inl (.inr h))
end prog
namespace prog
open keys (ze zd zr zn)
theorem kq(w:World)(b:Nat)(i:Int)(hb:w.heap[b]? =some (.cells #[.int .i64 i] 3 (0,0)))(qi:Nat)(qb:List Value)(hq:zy qb):
 Calls Tryz.prog 184 #[.agg (.int .i64 (qi:Int)::qb).toArray,.pointer (some ⟨b,0,none⟩)] w fun e w'=>e=.returned (.bool ((qi:Int)==i))∧Kept (fun _=>False) w w':=by
 have HKA:Hid (Kept (fun _=>False) w (w.alloc (.cells (.int .i64 (qi:Int)::qb).toArray 160))):=Kept.alloc _ _ _
 have hl:=(lT hb)
 have c0:(w.alloc (.cells (.int .i64 (qi:Int)::qb).toArray 160)).cell? ⟨w.heap.size,0,none⟩=some (.int .i64 (qi:Int)):=by rw [cell_of_row _ _ 0 _ _ _ (heap_alloc_new w _)];simp
 have c1:(w.alloc (.cells (.int .i64 (qi:Int)::qb).toArray 160)).cell? ⟨b,0,none⟩=some (.int .i64 i):=cR (((HKA.out.block _ hl id).trans hb)) rfl
 clear hb
 go_enter Tryz.func184,Tryz.ntmps184
 go_wp2
 go_ret
 exact⟨rfl,HKA.out⟩
theorem fF(w:World)(bc bd:Nat)(T:Nat→Prop)(C:Ck)(a:Option Addr)(cap:Nat)(h:qm w bc bd T C a cap)(b:Nat)(i:Int)(hb:w.heap[b]? =some (.cells #[.int .i64 i] 3 (0,0))):
 Calls Tryz.prog 201 #[.slice a C.ws.length cap,.func (.func 184) #[] #[.pointer (some ⟨b,0,none⟩)]] w fun e w'=>e=.returned (.int .i64 (KU (qH C.ws i)))∧Kept (fun _=>False) w w':=by
 have HIw:Hid ((Tryz.prog.info? 160).map (·.size)=some 129):=zS Tryz.infoCw
 have hfew:=h.few
 have HH:Hid _:=h
 have HB:Hid _:=hb
 clear h hb
 go_enter Tryz.func201,Tryz.ntmps201
 go_wp2
 go_loopw [8] (fun t wr=>∃k:Nat,k≤C.ws.length∧t=.int .i64 k∧(∀j (hj:j<C.ws.length),j<k→¬(C.ws[j].1:Int)=i)∧Kept (fun _=>False) w wr) (fun t _=>C.ws.length-(intOf t).toNat)
 case atStart=>exact⟨0,Nat.zero_le _,rfl,fun _ _ h=>by omega,Kept.refl _ _⟩
 case round=>
  obtain⟨k,hk,rfl,h0,hkept⟩:=hrel
  have H0:Hid _:=h0
  have HK:Hid _:=hkept
  clear h0 hkept
  by_cases hlt:k<C.ws.length
  ·obtain⟨g,rfl⟩:=HH.out.rowAt (by omega)
   have HP:Hid (wr.rangeAt g (k*129) (.int .i64 (C.ws[k].1:Int)::C.ws[k].2)):=(HH.out.kept HK.out nF).range k hlt
   have HPO:Hid (zy C.ws[k].2):=HH.out.ok _ (List.getElem_mem hlt)
   have HX:Hid (∀j (hj:j<C.ws.length),j<k+1→¬(C.ws[k].1:Int)=i→¬(C.ws[j].1:Int)=i):=fun j hj hjk hne=>by
    by_cases e:j=k
    ·subst e;exact hne
    ·exact H0.out j hj (by omega)
   have HE:Hid ((C.ws[k].1:Int)=i→qH C.ws i=some k):=fun he=>dx hlt H0.out he
   have HBW:Hid (wr.heap[b]? =some (.cells #[.int .i64 i] 3 (0,0))):=(HK.out.block _ (lT HB.out) id).trans HB.out
   generalize hq:C.ws[k]=q at*
   obtain⟨qi,qb⟩:=q
   clear hq
   simp only at HX HE
   by_cases hqi:(qi:Int)=i
   ·have hq2:((qi:Int)==i)=true:=by simp [hqi]
    have HQ2:Hid (((qi:Int)==i)=true):=hq2
    have HQ:Hid ((qi:Int)=i):=hqi
    clear hqi hq2
    go_wp2_with (first
     |(show wpList _ _ _ ({dst:=some 15,op:=.load _ _,type:=_,pos:=_,after:=_,guard:=_}::_) _ _;refine wpList_load_mid rfl 160 (.tmp 14) rfl _ _ rfl (.int .i64 (qi:Int)::qb) _ HP.out Tryz.underlying160 rfl (by rw [List.length_cons,HPO.out.1];exact HIw.out) ?_)
     |(go_at_call 184;refine(kq _ b i HBW.out qi qb HPO.out).mono ?_;rintro e w1 ⟨rfl,hk1⟩;rw [HQ2.out];have HK1:Hid _:=hk1;clear hk1))
    go_ret
    exact⟨by rw [HE.out HQ.out];rfl,HK.out.trans HK1.out iL⟩
   ·have hq2:((qi:Int)==i)=false:=by simpa using hqi
    have HQ2:Hid (((qi:Int)==i)=false):=hq2
    have HQ:Hid (¬(qi:Int)=i):=hqi
    clear hqi hq2
    go_wp2_with (first
     |(show wpList _ _ _ ({dst:=some 15,op:=.load _ _,type:=_,pos:=_,after:=_,guard:=_}::_) _ _;refine wpList_load_mid rfl 160 (.tmp 14) rfl _ _ rfl (.int .i64 (qi:Int)::qb) _ HP.out Tryz.underlying160 rfl (by rw [List.length_cons,HPO.out.1];exact HIw.out) ?_)
     |(go_at_call 184;refine(kq _ b i HBW.out qi qb HPO.out).mono ?_;rintro e w1 ⟨rfl,hk1⟩;rw [HQ2.out];have HK1:Hid _:=hk1;clear hk1))
    go_roundw
    case rel=>exact⟨k+1,by omega,by go_num,fun j hj hjk=>HX.out j hj hjk HQ.out,HK.out.trans HK1.out iL⟩
    case measure=>simp [intOf];omega
  ·have HE:Hid (qH C.ws i=none):=cY (fun j hj=>H0.out j hj (by omega))
   go_wp2
   go_ret
   exact⟨by rw [HE.out];rfl,HK.out⟩
theorem bU(w:World)(b o n c:Nat)(hn:0<n)(ht:w.there b o (n*129)):
 ∃L:List Value,L.length=n*129∧∀ty,(Builtin.clear_ #[156] ty #[.slice (some ⟨b,o,none⟩) n c]).run Tryz.prog w=.ok (.tuple #[]) (w.setCells b o L):=by
 have hzl:qU.length=129:=congrArg (· +1) zF.1
 have hz:=zV Tryz.infoCw
 have hone:∀v∈qU,v.oneCell'=true:=List.forall_mem_cons.2 ⟨rfl,zF.2⟩
 generalize hZW:qU=ZW at*
 have hlen:(Builtin.zeroCells ZW.toArray n).toList.length=n*129:=by simp [Builtin.zeroCells,hzl]
 have hon:∀v∈(Builtin.zeroCells ZW.toArray n).toList,v.oneCell'=true:=fun v hv=>by
  simp only [Builtin.zeroCells,Array.toList_map,Array.toList_range,List.mem_map] at hv
  obtain⟨i,_,rfl⟩:=hv
  have hi:i%ZW.toArray.size<ZW.toArray.size:=Nat.mod_lt _ (by simp [hzl])
  rw [getElem!_pos ZW.toArray _ hi]
  exact hone _ (by simp)
 refine⟨(Builtin.zeroCells ZW.toArray n).toList,hlen,fun ty=>?_⟩
 have hst:=run_storeCells_cells (P:=Tryz.prog) b o (Builtin.zeroCells ZW.toArray n).toList 0 w (fun j hj=>(ht j (by omega)).1) (fun j hj=>(ht j (by omega)).2) hon
 simp only [Nat.add_zero] at hst
 obtain⟨m,rfl⟩:∃m,n=m+1:=⟨n-1,by omega⟩
 have hcs:(Value.agg ZW.toArray).cells=ZW.toArray:=rfl
 simp only [Builtin.clear_]
 simp [run_underlying Tryz.underlying156,hz,hcs,hst]
theorem vN(c:Nat):∀(l:List (List Value)),(∀b∈l,b.length=c)→l.flatten.length=l.length*c
 |[],_=>by simp
 |b::l,h=>by
  rw [List.flatten_cons,List.length_append,vN c l (fun x hx=>h x (List.mem_cons_of_mem _ hx)),h b (List.mem_cons_self ..),List.length_cons,Nat.add_mul]
  omega
theorem Ya{w:World}{g n cap:Nat}{V:List (Nat×List Value)}(h:w.ownsRow 0 160 129 (.slice (some ⟨g,0,none⟩) n cap) n (V.map zM).flatten)(hok:∀p∈V,zy p.2)(hV:V.length=n)(i:Nat)(hi:i≤n)(L:List Value)(hL:i*129+L.length≤n*129):
 (w.setCells g (i*129) L).ownsRow 0 160 129 (.slice (some ⟨g,0,none⟩) i cap) i ((V.take i).map zM).flatten:=by
 have hw:∀b∈V.map zM,b.length=129:=fun b hb=>by
  obtain⟨p,hp,rfl⟩:=List.mem_map.1 hb
  simp [zM,(hok p hp).1]
 rcases h.2 with⟨h0,_⟩|⟨g',cap',cur,hv,hb,hg,h1,h2,h3,h4⟩
 ·cases h0
 ·cases hv
  have hlen:((V.take i).map zM).flatten.length=i*129:=by
   rw [vN 129 _ (fun b hb=>hw b (by rw [List.map_take] at hb;exact List.mem_of_mem_take hb))]
   simp;omega
  refine⟨hlen,.inr ⟨g,cap,_,rfl,hb,zY g _ L (i*129) w cur hg (by rw [h3];have:=Nat.mul_le_mul_right 129 h1;omega),by omega,h2,?_,?_⟩⟩
  ·have:=Nat.mul_le_mul_right 129 h1
   have hcs:cur.toList.length=cap*129:=by simpa using h3
   simp
   omega
  ·have hc:i*129≤cur.toList.length:=by
    have:=Nat.mul_le_mul_right 129 h1
    have hcs:cur.toList.length=cap*129:=by simpa using h3
    omega
   have e1:(cur.toList.take (i*129)).length=i*129:=by simp at hc ⊢;omega
   show (cur.toList.take (i*129)++L++cur.toList.drop (i*129+L.length)).take (i*129)=_
   rw [List.append_assoc,List.take_append_of_le_length (by omega),List.take_of_length_le (by omega)]
   have e2:cur.toList.take (i*129)=(cur.toList.take (n*129)).take (i*129):=by rw [List.take_take,Nat.min_eq_left (by have:=Nat.mul_le_mul_right 129 hi;omega)]
   rw [e2,h4]
   have e3:(V.map zM).flatten=((V.take i).map zM).flatten++((V.drop i).map zM).flatten:=by rw [←List.flatten_append,←List.map_append,List.take_append_drop]
   rw [e3,List.take_append_of_le_length (by omega),List.take_of_length_le (by omega)]
theorem vO(w:World)(b o n c:Nat)(hn:0<n)(ht:w.there b o (n*5)):
 ∃L:List Value,L.length=n*5∧∀ty,(Builtin.clear_ #[207] ty #[.slice (some ⟨b,o,none⟩) n c]).run Tryz.prog w=.ok (.tuple #[]) (w.setCells b o L):=by
 have hz:∀w,(zeroValue 109).run Tryz.prog w=.ok (.agg qo.toArray) w:=zV Tryz.infoEntry
 have hzl:qo.length=5:=rfl
 have hone:∀v∈qo,v.oneCell'=true:=by simp [qo,Value.oneCell']
 generalize hZW:qo=ZW at*
 have hlen:(Builtin.zeroCells ZW.toArray n).toList.length=n*5:=by simp [Builtin.zeroCells,hzl]
 have hon:∀v∈(Builtin.zeroCells ZW.toArray n).toList,v.oneCell'=true:=fun v hv=>by
  simp only [Builtin.zeroCells,Array.toList_map,Array.toList_range,List.mem_map] at hv
  obtain⟨i,_,rfl⟩:=hv
  have hi:i%ZW.toArray.size<ZW.toArray.size:=Nat.mod_lt _ (by simp [hzl])
  rw [getElem!_pos ZW.toArray _ hi]
  exact hone _ (by simp)
 refine⟨(Builtin.zeroCells ZW.toArray n).toList,hlen,fun ty=>?_⟩
 have hst:=run_storeCells_cells (P:=Tryz.prog) b o (Builtin.zeroCells ZW.toArray n).toList 0 w (fun j hj=>(ht j (by omega)).1) (fun j hj=>(ht j (by omega)).2) hon
 simp only [Nat.add_zero] at hst
 obtain⟨m,rfl⟩:∃m,n=m+1:=⟨n-1,by omega⟩
 have hcs:(Value.agg ZW.toArray).cells=ZW.toArray:=rfl
 simp only [Builtin.clear_]
 simp [run_underlying Tryz.underlying207,hz,hcs,hst]
theorem ZL{w:World}{g n cap:Nat}{es:List En}(h:w.ownsRow 0 109 5 (.slice (some ⟨g,0,none⟩) n cap) n (zf es))(i:Nat)(hi:i≤n)(hes:es.length=n):w.ownsRow 0 109 5 (.slice (some ⟨g,0,none⟩) i cap) i (zf (es.take i)):=by
 rcases h.2 with⟨h0,_⟩|⟨g',cap',cur,hv,hb,hg,h1,h2,h3,h4⟩
 ·cases h0
 ·cases hv
  have hl:(zf (es.take i)).length=i*5:=by rw [qM,List.length_take,hes,Nat.min_eq_left hi]
  refine⟨hl,.inr ⟨g,cap,cur,rfl,hb,hg,by omega,h2,h3,?_⟩⟩
  have e2:cur.toList.take (i*5)=(cur.toList.take (n*5)).take (i*5):=by rw [List.take_take,Nat.min_eq_left (by omega)]
  rw [e2,h4]
  have e3:zf es=zf (es.take i)++zf (es.drop i):=by rw [←qF,List.take_append_drop]
  rw [e3,List.take_append_of_le_length (by omega),List.take_of_length_le (by omega)]
theorem J4{w:World}{g n cap:Nat}{es:List En}(h:w.ownsRow 0 109 5 (.slice (some ⟨g,0,none⟩) n cap) n (zf es))(i:Nat)(hi:i≤n)(hes:es.length=n):∀j u,(zf (es.drop i))[j]? =some u→w.cell? ((⟨g,i*5,none⟩:Addr).add j)=some u:=fun j u hu=>by
 have e3:zf es=zf (es.take i)++zf (es.drop i):=by rw [←qF,List.take_append_drop]
 have hl:(zf (es.take i)).length=i*5:=by rw [qM,List.length_take,hes,Nat.min_eq_left hi]
 have:=h.cells (g:=g) rfl (i*5+j) u (by rw [e3,List.getElem?_append_right (by omega),hl,Nat.add_sub_cancel_left];exact hu)
 rw [Addr.add_mid] at this ⊢
 simpa using this
theorem dL{w:World}{g k cap:Nat}{xs:List Value}(h:w.ownsRow 0 109 5 (.slice (some ⟨g,0,none⟩) k cap) k xs)(L:List Value)(hL:k*5+L.length≤cap*5):(w.setCells g (k*5) L).ownsRow 0 109 5 (.slice (some ⟨g,0,none⟩) k cap) k xs:=by
 rcases h.2 with⟨h0,_⟩|⟨g',cap',cur,hv,hb,hg,h1,h2,h3,h4⟩
 ·cases h0
 ·cases hv
  have hcs:cur.toList.length=cap*5:=by simpa using h3
  refine⟨h.1,.inr ⟨g,cap,_,rfl,hb,zY g _ L (k*5) w cur hg (by omega),h1,h2,?_,?_⟩⟩
  ·simp
   omega
  ·show (cur.toList.take (k*5)++L++cur.toList.drop (k*5+L.length)).take (k*5)=_
   rw [List.append_assoc,List.take_append_of_le_length (by simp;omega),List.take_of_length_le (by simp;omega)]
   exact h4
theorem ZM{w:World}{g k cap:Nat}{xs:List Value}(h:w.ownsRow 0 109 5 (.slice (some ⟨g,0,none⟩) k cap) k xs)(o n:Nat)(hn:o+n≤cap*5):w.there g o n:=by
 rcases h.2 with⟨h0,_⟩|⟨g',cap',cur,hv,hb,hg,h1,h2,h3,h4⟩
 ·cases h0
 ·cases hv
  intro m hm
  refine⟨?_,frozen_of_row w g _ _ _ hg⟩
  rw [cell_of_row w g _ _ _ _ hg,Array.getElem?_eq_getElem (by omega)]
  rfl
section
attribute [local go_sem ↓] gl
theorem vP(w:World)(g n cap:Nat)(es:List En)(hes:es.length=n)(h:w.ownsRow 0 109 5 (.slice (some ⟨g,0,none⟩) n cap) n (zf es))(i:Nat)(hi:i<n)(hn:n≤1000):
 Calls Tryz.prog 181 #[.slice (some ⟨g,0,none⟩) n cap,.int .i64 (i:Int),.int .i64 ((i:Int)+1)] w fun e w'=>e=.returned (.slice (some ⟨g,0,none⟩) (n-1) cap)∧w'.ownsRow 0 109 5 (.slice (some ⟨g,0,none⟩) (n-1) cap) (n-1) (zf (es.eraseIdx i))∧Kept (fun j=>j=g) w w':=by
 obtain⟨i0,hi0,hz0,hz1,hz2⟩:=info_parts Tryz.infoEntry
 have hcap:n≤cap:=by
  rcases h.2 with⟨h0,_⟩|⟨g',cap',cur,hv',_,hg,h1,h2,h3,h4⟩
  ·cases h0
  ·cases hv';exact h1
 have hd:w.drew.ownsRow 0 109 5 (.slice (some ⟨g,0,none⟩) n cap) n (zf es):=(Kept.drew (fun _=>False) w).owns h nF
 obtain⟨w2,hrun0,hr1,hr2⟩:=run_append_fits (P:=Tryz.prog) w.drew 0 207 207 109 i0 5 Tryz.underlying207 hi0 hz1 g i cap (zf (es.take i)) (ZL hd i (by omega) hes) ⟨g,(i+1)*5,none⟩ (n-(i+1)) (cap-(i+1)) (zf (es.drop (i+1))) (by rw [qM,List.length_drop,hes]) (J4 hd (i+1) (by omega) hes) (jm _) (by omega)
 have hrun:(QH #[.slice (some ⟨g,0,none⟩) i cap,.slice (some ⟨g,(i+1)*5,none⟩) (n-(i+1)) (cap-(i+1))]).run Tryz.prog w.drew=.ok (.slice (some ⟨g,0,none⟩) (i+(n-(i+1))) cap) w2:=hrun0
 have HR1:Hid (w2.ownsRow 0 109 5 (.slice (some ⟨g,0,none⟩) (n-1) cap) (n-1) (zf (es.eraseIdx i))):=by
  have e1:i+(n-(i+1))=n-1:=by omega
  rw [e1,←qF,←List.eraseIdx_eq_take_drop_succ] at hr1
  exact hr1
 have HK2:Hid (Kept (fun j=>j=g) w w2):=((Kept.drew (fun _=>False) w).mono fE).trans (Kept.grown (S:=fun j=>j=g) hr2 (fun k hk=>(Option.some.inj hk).symm)) iL
 have e1:i+(n-(i+1))=n-1:=by omega
 rw [e1] at hrun
 have HE1:Hid (i+(n-(i+1))=n-1):=e1
 clear hrun0 hr1 hr2 hd e1 hi0 hz0 hz1 hz2
 have HH:Hid _:=h
 have HES:Hid (es.length=n):=hes
 clear h hes
 have hb1:(i:Int)+1≤(n:Int):=by omega
 have hb2:(n:Int)≤(cap:Int):=by omega
 have hb3:(i:Int)≤(n:Int):=by omega
 have hb4:(i:Int)≤(cap:Int):=by omega
 have hb5:(i:Int)+1≤(cap:Int):=by omega
 have hb6:(0:Int)≤(i:Int)+1:=by omega
 have hne1:¬cap=i:=by omega
 have hne1I:¬(cap:Int)=(i:Int):=by omega
 by_cases hc:cap=i+1
 ·obtain rfl:n=i+1:=by omega
  subst hc
  have hd:w.drew.ownsRow 0 109 5 (.slice (some ⟨g,0,none⟩) (i+1) (i+1)) (i+1) (zf es):=(Kept.drew (fun _=>False) w).owns HH.out nF
  obtain⟨j0,hj0,hy0,hy1,hy2⟩:=info_parts Tryz.infoEntry
  obtain⟨w3,hrun0,hr1,hr2⟩:=run_append_fits (P:=Tryz.prog) w.drew 0 207 207 109 j0 5 Tryz.underlying207 hj0 hy1 g i (i+1) (zf (es.take i)) (ZL hd i (by omega) HES.out) ⟨g,0,none⟩ 0 0 [] rfl (fun j u hu=>by simp at hu) (by simp) (by omega)
  have hrun3:(QH #[.slice (some ⟨g,0,none⟩) i (i+1),.slice (some ⟨g,0,none⟩) 0 0]).run Tryz.prog w.drew=.ok (.slice (some ⟨g,0,none⟩) i (i+1)) w3:=hrun0
  have HR3:Hid (w3.ownsRow 0 109 5 (.slice (some ⟨g,0,none⟩) i (i+1)) i (zf (es.eraseIdx i))):=by
   rw [List.append_nil] at hr1
   have e1:es.eraseIdx i=es.take i:=by rw [List.eraseIdx_eq_take_drop_succ,List.drop_of_length_le (by rw [HES.out];exact Nat.le_refl _),List.append_nil]
   rw [e1]
   exact hr1
  have HK3:Hid (Kept (fun j=>j=g) w w3):=((Kept.drew (fun _=>False) w).mono fE).trans (Kept.grown (S:=fun j=>j=g) hr2 (fun k hk=>(Option.some.inj hk).symm)) iL
  clear hrun0 hr1 hr2 hd hj0 hy0 hy1 hy2 hrun
  have hb7:(i:Int)≤(i:Int)+1:=by omega
  go_enter Tryz.func181,Tryz.ntmps181
  go_wp2_with fail
  go_region_held3 (fun _=>True) (trivial) (fail)
  obtain⟨L,hL,hcl⟩:=vO w3 g (i*5) 1 1 (by omega) (ZM HR3.out _ _ (by omega))
  have HLL:Hid (L.length=1*5):=hL
  clear hL
  go_wp2
  go_ret
  have hll:=HLL.out
  exact⟨rfl,dL HR3.out L (by omega),HK3.out.trans (Kept.setCells (S:=fun j=>j=g) g rfl _ _ _) iL⟩
 ·have hcI:¬(cap:Int)=(i:Int)+1:=by omega
  go_enter Tryz.func181,Tryz.ntmps181
  go_wp2_with fail
  go_region_held3 (fun _=>True) (trivial) (fail)
  obtain⟨L,hL,hcl⟩:=vO w2 g ((n-1)*5) (n-(n-1)) (cap-(n-1)) (by omega) (ZM HR1.out _ _ (by omega))
  have HLL:Hid (L.length=(n-(n-1))*5):=hL
  have hneq:¬cap=n-1:=by omega
  have hnI1:((n-1:Nat):Int)≤(n:Int):=by omega
  have hnI2:¬(cap:Int)=((n-1:Nat):Int):=by omega
  clear hL
  go_wp2
  go_ret
  have hll:=HLL.out
  exact⟨rfl,dL HR1.out L (by omega),HK2.out.trans (Kept.setCells (S:=fun j=>j=g) g rfl _ _ _) iL⟩
end
end prog
end Go.Proofs.YtcoengihaobddaaGreatDoor

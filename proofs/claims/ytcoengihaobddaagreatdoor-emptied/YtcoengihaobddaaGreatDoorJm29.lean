/- Part 29 of 31 of a proof: Lst3 -/
import Derived.Test.YtcoengihaobddaaGreatDoorJm28
set_option maxHeartbeats 8000000
set_option linter.unusedVariables false
set_option linter.unusedSimpArgs false
set_option maxRecDepth 8000
namespace Go.Proofs.YtcoengihaobddaaGreatDoor
namespace prog
open Go.ChangeShapes Go.WideShapes Go.ChangeAt Go.RowKit disk ref
open Go.MuLone
open keys (zj zd zA zq zs)
theorem YA:∀a b:List UInt8,Op.bytesLess a b=qk a b
 |[],[]=>rfl
 |[],_::_=>rfl
 |_::_,[]=>rfl
 |x::a,y::b=>by
  unfold Op.bytesLess qk
  have ih:=YA a b
  by_cases e:x=y
  ·subst e
   have hl:¬x<x:=UInt8.lt_irrefl x
   simp [ih,hl]
  ·have hb:(x==y)=false:=beq_false_of_ne e
   simp [hb,e]
theorem ZS(a b:ByteArray):Op.bytesLess a.toList b.toList=ql a b:=by
 rw [YA,ByteArray.toList_eq,ByteArray.toList_eq];rfl
theorem Xu(w:World)(p k:ByteArray)(n:Int)(h0:0≤n)(h1:n≤9223372036854775807):
 Calls Tryz.prog 68 #[.string p,.string k,.int .i64 n] w fun e w'=>e=.returned (.agg #[.string (xj p k n).key,.int .i64 (xj p k n).num])∧za (fun _=>False) w w':=by
 unfold xj
 by_cases h:ql k p=true
 ·have hb:Op.bytesLess k.toList p.toList=true:=by rw [ZS];exact h
  rw [if_pos h]
  go_enter Tryz.func68,Tryz.ntmps68
  go_wp2
  exact bodyPost_ret (results_cell_row Tryz.results68 _ _ w.heap.size 107 _ (0,0) _ rfl (heap_alloc_new w _) Tryz.underlying107 rfl (by kernel_rfl)) rfl ⟨rfl,za.alloc _ _ _⟩
 ·have hb:Op.bytesLess k.toList p.toList=false:=by rw [ZS];simpa using h
  rw [if_neg h]
  go_enter Tryz.func68,Tryz.ntmps68
  go_wp2
  exact bodyPost_ret (results_cell_row Tryz.results68 _ _ w.heap.size 107 _ (0,0) _ rfl (heap_alloc_new w _) Tryz.underlying107 rfl (by kernel_rfl)) rfl ⟨rfl,za.alloc _ _ _⟩
inductive xI (p k:ByteArray) (n m:Int):Int→Prop
 |badp (h1:(p.toList==[])=false) (h2:zs p.data.toList=false):xI p k n m 2
 |badk (h0:(p.toList==[])=true∨((p.toList==[])=false∧zs p.data.toList=true)) (h1:(k.toList==[])=false) (h2:zs k.data.toList=false):xI p k n m 2
 |arg (h0:(p.toList==[])=true∨((p.toList==[])=false∧zs p.data.toList=true)) (h1:(k.toList==[])=true∨((k.toList==[])=false∧zs k.data.toList=true)) (h2:n<0∨(¬n<0∧m<1)∨(¬n<0∧¬m<1∧50<m)):xI p k n m 4
 |ok (h0:(p.toList==[])=true∨((p.toList==[])=false∧zs p.data.toList=true)) (h1:(k.toList==[])=true∨((k.toList==[])=false∧zs k.data.toList=true)) (h2:¬n<0) (h3:¬m<1) (h4:¬50<m):xI p k n m 0
theorem uz(p k:ByteArray)(n m:Int):xI p k n m (yH p k n m):=by
 have hp:(p≠ByteArray.empty)↔(p.toList==[])=false:=by rw [ne_eq,←gD];simp
 have hk:(k≠ByteArray.empty)↔(k.toList==[])=false:=by rw [ne_eq,←gD];simp
 have ok:∀q:ByteArray,((q≠ByteArray.empty)↔(q.toList==[])=false)→¬(q≠ByteArray.empty∧zs q.data.toList=false)→(q.toList==[])=true∨((q.toList==[])=false∧zs q.data.toList=true):=fun q hq h=>by
  cases q0:(q.toList==[]) with
  |true=>exact .inl rfl
  |false=>
   refine .inr ⟨rfl,?_⟩
   cases q1:zs q.data.toList with
   |true=>rfl
   |false=>exact absurd ⟨hq.2 q0,q1⟩ h
 unfold yH
 by_cases h1:p≠ByteArray.empty∧zs p.data.toList=false
 ·rw [if_pos (.inl h1)]
  exact .badp (hp.1 h1.1) h1.2
 ·by_cases h2:k≠ByteArray.empty∧zs k.data.toList=false
  ·rw [if_pos (.inr h2)]
   exact .badk (ok p hp h1) (hk.1 h2.1) h2.2
  ·rw [if_neg (fun h=>h.elim h1 h2)]
   by_cases h3:n<0∨m<1∨50<m
   ·rw [if_pos h3]
    exact .arg (ok p hp h1) (ok k hk h2) (by omega)
   ·rw [if_neg h3]
    exact .ok (ok p hp h1) (ok k hk h2) (by omega) (by omega) (by omega)
theorem dQ(w:World)(bs:Nat)(q:Option Nat)(hs:zu w bs 0 q)(p k:ByteArray)(n m:Int)(hp:p.size≤maxLen)(hk:k.size≤maxLen)(c c':Int)(hc:xI p k n m c)(hcc:(c≠0∧c'=c)∨(c=0∧q=none∧c'=8)):
 Calls Tryz.prog 45 #[.pointer (some ⟨bs,0,none⟩),.string p,.string k,.int .i64 n,.int .i64 m] w fun e w'=>e=.returned (.tuple #[.agg #[.slice none 0 0,.bool false],.int .i64 c'])∧zu w' bs 0 q∧za (fun k=>k=bs) w w':=by
 have HS:Hid _:=hs
 clear hs
 have HKP:Hid (za (fun _=>False) w (w.alloc (.cells #[.slice none 0 0,.bool false] 90))):=za.alloc _ _ _
 have HBP:Hid ((w.alloc (.cells #[.slice none 0 0,.bool false] 90)).heap[w.heap.size]? =some (.cells #[.slice none 0 0,.bool false] 90 (0,0))):=heap_alloc_new w _
 have hbs:=HS.out.lt
 have hsP:(w.alloc (.cells #[.slice none 0 0,.bool false] 90)).heap.size=w.heap.size+1:=by simp
 have HL:Hid (∀W,W=w.alloc (.cells #[.slice none 0 0,.bool false] 90)→Calls Tryz.prog 47 #[.pointer (some ⟨bs,0,none⟩)] W fun e w1=>e=.returned (.tuple #[])∧zu w1 bs 1 q∧w1.heap[w.heap.size]? =some (.cells #[.slice none 0 0,.bool false] 90 (0,0))∧za (fun k=>k=bs) w w1∧w.heap.size<w1.heap.size):=by
  rintro W rfl
  refine(qu (HS.out.kept HKP.out id)).mono ?_
  rintro e w1 ⟨rfl,h1,h2⟩
  have hz:=h2.size
  exact⟨rfl,h1,(h2.block _ (by omega) (by omega)).trans HBP.out,(HKP.out.mono fE).trans h2 iL,by omega⟩
 have HFIN:Hid (∀(w1:World),zu w1 bs 1 q→w1.heap[w.heap.size]? =some (.cells #[.slice none 0 0,.bool false] 90 (0,0))→za (fun k=>k=bs) w w1→∀tmps:Array Value,tmps.getD 10 undef=.pointer (some ⟨w.heap.size,0,none⟩)→tmps.getD 11 undef=.int .i64 c'→bodyPostD Tryz.prog Tryz.f45 (fun e w'=>e=.returned (.tuple #[.agg #[.slice none 0 0,.bool false],.int .i64 c'])∧zu w' bs 0 q∧za (fun k=>k=bs) w w') .ret {tmps:=tmps,defers:=[{target:=.fn (.func 48) #[],args:=#[.pointer (some ⟨bs,0,none⟩)] }]} ((w1.setCell ⟨w.heap.size,0,none⟩ (.slice none 0 0)).setCell ⟨w.heap.size,1,none⟩ (.bool false))):=by
  intro w1 hs1 hb1 hk1 tmps h10 h11
  have hz1:=hk1.size
  have hl1:=(lT hb1)
  have hh1:=heap_setCell_same w1 w.heap.size 0 _ _ (.slice none 0 0) hb1
  have hh2:=heap_setCell_same _ w.heap.size 1 _ _ (.bool false) hh1
  have kS:za (fun j=>j=w.heap.size) w1 ((w1.setCell ⟨w.heap.size,0,none⟩ (.slice none 0 0)).setCell ⟨w.heap.size,1,none⟩ (.bool false)):=(za.setCell (S:=fun j=>j=w.heap.size) w1 ⟨w.heap.size,0,none⟩ _ rfl).trans (za.setCell (S:=fun j=>j=w.heap.size) _ ⟨w.heap.size,1,none⟩ _ rfl) iL
  generalize ((w1.setCell ⟨w.heap.size,0,none⟩ (.slice none 0 0)).setCell ⟨w.heap.size,1,none⟩ (.bool false))=Y at*
  refine leaves_cons (f:= 48) (args:=#[.pointer (some ⟨bs,0,none⟩)]) (by simp) (by simp [go_sem]) ?_
  refine(qt (hs1.kept kS (by omega))).mono ?_
  rintro e u' w5 ⟨rfl,rfl,hs5,hk5⟩
  have hb5:=(hk5.block _ (by have:=kS.size;omega) (by omega)).trans hh2
  refine⟨_,qv rfl _ _ _ _ _ _ _ h10 hb5 Tryz.underlying90 rfl (by kernel_rfl),?_,hs5,?_⟩
  ·rw [h11];rfl
  ·exact(hk1.trans kS (fun j hj=>.inr (by omega))).trans hk5 iL
 rcases hc with⟨h1,h2⟩|⟨h0|⟨h0,h0'⟩,h1,h2⟩|⟨h0|⟨h0,h0'⟩,h1|⟨h1,h1'⟩,h2|⟨h2,h3⟩|⟨h2,h3,h4⟩⟩|⟨h0|⟨h0,h0'⟩,h1|⟨h1,h1'⟩,h2,h3,h4⟩
 all_goals rcases hcc with⟨hc0,rfl⟩|⟨hc0,rfl,rfl⟩
 all_goals first
  |exact absurd rfl hc0
  |exact absurd hc0 (by decide)
  |(clear hc0
    go_enter_defers Tryz.func45,Tryz.ntmps45
    go_wp2_with (first
     |(go_at_call 47;refine(HL.out _ rfl).mono ?_;rintro e w1 ⟨rfl,hs1,hb1,hk1,hlt1⟩;have HS1:Hid _:=hs1;have HB1:Hid (w1.heap[w.heap.size]? =some (.cells #[.slice none 0 0,.bool false] 90 (0,0))):=hb1;have HK1:Hid (za (fun k=>k=bs) w w1):=hk1;have y0:w1.cell? ⟨w.heap.size,0,none⟩=some (.slice none 0 0):=(cR hb1 rfl);have y1:w1.cell? ⟨w.heap.size,1,none⟩=some (.bool false):=(cR hb1 rfl);have f0:=frozen_of_row w1 w.heap.size 0 _ _ hb1;have f1:=frozen_of_row w1 w.heap.size 1 _ _ hb1;have c2:=hs1.c2;try simp only [Option.map_none] at c2;clear hs1 hb1 hk1)
     |(go_at_call 49;refine(keys.qA _ w1 (by assumption)).mono ?_;rintro e w2 ⟨rfl,hw2⟩;rw [hw2];clear hw2 w2))
    exact HFIN.out w1 HS1.out HB1.out HK1.out _ rfl rfl)
theorem Xv(w:World)(bs bd:Nat)(S:Nat→Prop)(D:Dk)(hs:zu w bs 0 (some bd))(hd:zh w bd S D)(hn:¬S bs)(hr0:0≤D.reads)(hr1:D.reads≤4611686018427350000)(tree n0:Nat)(hb:qQ (D.look 1) tree n0)(p k:ByteArray)(n m:Int)(hp:p.size≤maxLen)(hk:k.size≤maxLen)(hn9:n≤9223372036854775807)(hc:xI p k n m 0)(es:List En)(bl:List Nat)(hF:qE (fun j=>D.look (j:Nat)) tree es bl)(hbl:bl.length≤979)(hbs:∀j∈bl,21≤j)(hks:∀x∈es,x.pl.key.size≤9223372036854775807)(L:List En)(hL:ZQ p k n es=L):
 Calls Tryz.prog 45 #[.pointer (some ⟨bs,0,none⟩),.string p,.string k,.int .i64 n,.int .i64 m] w fun e w'=>(∃a c,e=.returned (.tuple #[.agg #[.slice a (L.take m.toNat).length c,.bool (decide (m.toNat<L.length))],.int .i64 0])∧w'.ownsRow 0 94 4 (.slice a (L.take m.toNat).length c) (L.take m.toNat).length (jE (L.take m.toNat))∧∀j,(Value.slice a (L.take m.toNat).length c).ownBlock=some j→w.heap.size≤j)∧zu w' bs 0 (some bd)∧(∃r:Int,D.reads≤r∧r≤D.reads+1000∧zh w' bd S {D with reads:=r })∧za (fun i=>i=bd∨i=bs) w w':=by
 have HS:Hid _:=hs
 have HD:Hid (zh w bd S D):=hd
 have hne:bs≠bd:=fun e=>hn (by rw [e];exact hd.bdS)
 have HN:Hid (∀j,S j→j≠bs):=fun j hj e=>hn (by rw [←e];exact hj)
 have hbd:bd<w.heap.size:=hd.lt bd hd.bdS
 have HSL:Hid (∀j,S j→j<w.heap.size):=hd.lt
 have hbs':=hs.lt
 have HM:Hid (0≤n∧1≤m∧m≤50):=by cases hc with|ok _ _ h2 h3 h4=>exact⟨by omega,by omega,by omega⟩
 obtain⟨T,hT⟩:∃T,T=L.take m.toNat:=⟨_,rfl⟩
 obtain⟨more,hM⟩:∃b,b=decide (m.toNat<L.length):=⟨_,rfl⟩
 rw [←hT,←hM]
 have HPG:Hid (∀w',zu w' bs 1 (some bd)→zh w' bd S D→Calls Tryz.prog 67 #[.pointer (some ⟨bs,0,none⟩),.string p,.agg #[.string (xj p k n).key,.int .i64 (xj p k n).num],.int .i64 m] w' fun e w''=>(∃a c,e=.returned (.agg #[.slice a T.length c,.bool more])∧w''.ownsRow 0 94 4 (.slice a T.length c) T.length (jE T)∧∀j,(Value.slice a T.length c).ownBlock=some j→w'.heap.size≤j)∧(∃r:Int,D.reads≤r∧r≤D.reads+1000∧zh w'' bd S {D with reads:=r })∧za (fun i=>i=bd) w' w''):=fun w' h1 h2=>by
  have h3:=HM.out
  have:=J2 w' bs bd S D 1 h1 h2 hn hr0 (by omega) tree n0 hb p (by unfold maxLen at hp;omega) (xj p k n) m.toNat (by omega) es bl hF hbl hbs hks L hL
  rw [show ((m.toNat:Nat):Int)=m from by omega,←hT,←hM] at this
  exact this
 clear hs hd hb hF hbs hks hL hT hM
 have HKP:Hid (za (fun _=>False) w (w.alloc (.cells #[.slice none 0 0,.bool false] 90))):=za.alloc _ _ _
 have HBP:Hid ((w.alloc (.cells #[.slice none 0 0,.bool false] 90)).heap[w.heap.size]? =some (.cells #[.slice none 0 0,.bool false] 90 (0,0))):=heap_alloc_new w _
 have hsP:(w.alloc (.cells #[.slice none 0 0,.bool false] 90)).heap.size=w.heap.size+1:=by simp
 have HL:Hid (∀W,W=w.alloc (.cells #[.slice none 0 0,.bool false] 90)→Calls Tryz.prog 47 #[.pointer (some ⟨bs,0,none⟩)] W fun e w1=>e=.returned (.tuple #[])∧zu w1 bs 1 (some bd)∧zh w1 bd S D∧w1.heap[w.heap.size]? =some (.cells #[.slice none 0 0,.bool false] 90 (0,0))∧za (fun k=>k=bs) w w1∧w.heap.size<w1.heap.size):=by
  rintro W rfl
  refine(qu (HS.out.kept HKP.out id)).mono ?_
  rintro e w1 ⟨rfl,h1,h2⟩
  have hz:=h2.size
  have hk:=(HKP.out.mono (S':=fun k=>k=bs) fE).trans h2 iL
  exact⟨rfl,h1,HD.out.kept hk HN.out,(h2.block _ (by omega) (by omega)).trans HBP.out,hk,by omega⟩
 have hn0:=HM.out.1
 cases hc with
 |ok h0 h1 h2 h3 h4=>
 rcases h0 with h0|⟨h0,h0'⟩<;>rcases h1 with h1|⟨h1,h1'⟩
 all_goals
  go_enter_defers Tryz.func45,Tryz.ntmps45
  go_wp2_with (first
   |(go_at_call 47;refine(HL.out _ rfl).mono ?_;rintro e w1 ⟨rfl,hs1,hd1,hb1,hk1,hlt1⟩;have HS1:Hid (zu w1 bs 1 (some bd)):=hs1;have HD1:Hid (zh w1 bd S D):=hd1;have HB1:Hid (w1.heap[w.heap.size]? =some (.cells #[.slice none 0 0,.bool false] 90 (0,0))):=hb1;have HK1:Hid (za (fun k=>k=bs) w w1):=hk1;have c2:w1.cell? ⟨bs,2,none⟩=some (.pointer (some ⟨bd,0,none⟩)):=hs1.c2;clear hs1 hd1 hb1 hk1)
   |(go_at_call 49;refine(keys.qA _ w1 (by assumption)).mono ?_;rintro e w2 ⟨rfl,hw2⟩;rw [hw2];clear hw2 w2)
   |(go_at_call 68;refine(Xu w1 p k n hn0 hn9).mono ?_;rintro e w3 ⟨rfl,hk3⟩;have HK3:Hid (za (fun _=>False) w1 w3):=hk3;have hz3:=hk3.size;clear hk3)
   |(go_at_call 67;refine(HPG.out w3 (HS1.out.kept HK3.out id) (HD1.out.kept HK3.out nF)).mono ?_;rintro e w4 ⟨⟨va,vc,rfl,hown,hfr⟩,⟨r4,hr4a,hr4b,hd4⟩,hk4⟩;have HOW:Hid _:=hown;have HFR:Hid (∀j,(Value.slice va T.length vc).ownBlock=some j→w3.heap.size≤j):=hfr;have HD4:Hid (zh w4 bd S {D with reads:=r4 }):=hd4;have HK4:Hid (za (fun i=>i=bd) w3 w4):=hk4;have hb4:w4.heap[w.heap.size]? =some (.cells #[.slice none 0 0,.bool false] 90 (0,0)):=(hk4.block _ (by omega) (by omega)).trans ((HK3.out.block _ (by omega) id).trans HB1.out);have HB4:Hid _:=hb4;have y0:w4.cell? ⟨w.heap.size,0,none⟩=some (.slice none 0 0):=(cR hb4 rfl);have y1:w4.cell? ⟨w.heap.size,1,none⟩=some (.bool false):=(cR hb4 rfl);have f0:=frozen_of_row w4 w.heap.size 0 _ _ hb4;have f1:=frozen_of_row w4 w.heap.size 1 _ _ hb4;clear hown hfr hd4 hk4 hb4))
  have hh1:=heap_setCell_same w4 w.heap.size 0 _ _ (.slice va T.length vc) HB4.out
  have hh2:=heap_setCell_same _ w.heap.size 1 _ _ (.bool more) hh1
  have kS:za (fun j=>j=w.heap.size) w4 ((w4.setCell ⟨w.heap.size,0,none⟩ (.slice va T.length vc)).setCell ⟨w.heap.size,1,none⟩ (.bool more)):=(za.setCell (S:=fun j=>j=w.heap.size) w4 ⟨w.heap.size,0,none⟩ _ rfl).trans (za.setCell (S:=fun j=>j=w.heap.size) _ ⟨w.heap.size,1,none⟩ _ rfl) iL
  generalize ((w4.setCell ⟨w.heap.size,0,none⟩ (.slice va T.length vc)).setCell ⟨w.heap.size,1,none⟩ (.bool more))=Y at*
  have hz4:=HK4.out.size
  have hzY:=kS.size
  have hz1:=HK1.out.size
  refine leaves_cons (f:= 48) (args:=#[.pointer (some ⟨bs,0,none⟩)]) (by simp) (by simp [go_sem]) ?_
  refine(qt (((HS1.out.kept HK3.out id).kept HK4.out hne).kept kS (by omega))).mono ?_
  rintro e u' w5 ⟨rfl,rfl,hs5,hk5⟩
  have hb5:=(hk5.block _ (by omega) (by omega)).trans hh2
  refine⟨_,qv rfl _ _ _ _ _ _ _ rfl hb5 Tryz.underlying90 rfl (by kernel_rfl),⟨va,vc,rfl,hk5.owns (kS.owns HOW.out (fun j hj e0=>by have:=HFR.out j hj;omega)) (fun j hj e0=>by have:=HFR.out j hj;omega),fun j hj=>by have:=HFR.out j hj;omega⟩,hs5,⟨r4,hr4a,hr4b,(HD4.out.kept kS (fun j hj e0=>by have:=HSL.out j hj;omega)).kept hk5 HN.out⟩,?_⟩
  exact((((HK1.out.mono (S':=fun i=>i=bd∨i=bs) (fun _ h=>.inr h)).trans HK3.out fE).trans HK4.out (fun _ h=>.inl (.inl h))).trans kS (fun j hj=>.inr (by omega))).trans hk5 (fun _ h=>.inl (.inr h))
end prog
end Go.Proofs.YtcoengihaobddaaGreatDoor

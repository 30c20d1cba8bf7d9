/- Part 29 of 34 of a proof: Rem6, Rem7 -/
import Derived.Test.YtcoengihaobddaaGreatDoorJk28
set_option maxHeartbeats 8000000
set_option linter.unusedVariables false
set_option linter.unusedSimpArgs false
set_option maxRecDepth 8000
namespace Go.Proofs.YtcoengihaobddaaGreatDoor
namespace prog
open Go.ChangeShapes Go.WideShapes Go.ChangeAt Go.RowKit disk ref
open keys (ze zd zr zn)
structure dO (bc bd:Nat) (S:Nat→Prop) (D:Dk) (C:Ck) (es:List En) (c:Nat) (es2:List En) (C2:Ck):Prop where
 go:∀(w:World) (T:Nat→Prop) (r:Int) (g cap:Nat),0≤r→r≤4611686018427380000→Cw w bc bd S T {D with reads:=r} C→w.ownsRow 0 109 5 (.slice (some ⟨g,0,none⟩) es.length cap) es.length (zf es)→¬S g→¬T g→
  Calls Tryz.prog 180 #[.agg #[.int .u8 4,.slice (some ⟨g,0,none⟩) es.length cap],.pointer (some ⟨bc,0,none⟩),.int .i64 c] w fun x w'=>x=.returned (.agg #[.int .u8 4,.slice (some ⟨g,0,none⟩) es2.length cap])∧w'.ownsRow 0 109 5 (.slice (some ⟨g,0,none⟩) es2.length cap) es2.length (zf es2)∧(∃(n:Int) (T':Nat→Prop),0≤n∧n≤3∧Cw w' bc bd S T' {D with reads:=r+n} C2∧∀j,T' j→T j∨w.heap.size≤j)∧Kept (fun j=>j=bd∨T j∨j=g) w w'
theorem dO.reads{bc bd:Nat}{S:Nat→Prop}{D:Dk}{C:Ck}{es:List En}{c:Nat}{es2:List En}{C2:Ck}(h:dO bc bd S D C es c es2 C2)(r:Int):dO bc bd S {D with reads:=r} C es c es2 C2:=⟨h.go⟩
theorem XE(w:World)(a':Option Addr)(n cap:Nat)(xs:List Value)(hown:w.ownsRow 0 109 5 (.slice a' n cap) n xs)(g2 m c2:Nat)(ev:List En)(hm:ev.length=m)(h2:w.ownsRow 0 109 5 (.slice (some ⟨g2,0,none⟩) m c2) m (zf ev))(h1:1≤m)(hn:n≤1000)(hm2:m≤1000):
 ∃g cp w',(QH #[.slice a' n cap,.slice (some ⟨g2,0,none⟩) m c2]).run Tryz.prog w=.ok (.slice (some ⟨g,0,none⟩) (n+m) cp) w'∧w'.ownsRow 0 109 5 (.slice (some ⟨g,0,none⟩) (n+m) cp) (n+m) (xs++zf ev)∧w.grownBy w' (Value.slice a' n cap).ownBlock∧((Value.slice a' n cap).ownBlock=some g∨g=w.heap.size)∧g<w'.heap.size:=by
 obtain⟨i0,hi0,hz0,hz1,hz2⟩:=info_parts Tryz.infoEntry
 exact run_append_lies (P:=Tryz.prog) (w:=w) 207 207 0 109 i0 _ 5 48 Tryz.underlying207 hi0 hz0 hz1 hz2 rfl (by omega) (.slice a' n cap) n xs hown ⟨g2,0,none⟩ m c2 (zf ev) (by rw [qM,hm]) (h2.cells (g:=g2) rfl) (jm _) (by omega) (by unfold maxLen;omega) (by omega) (Nat.zero_le _) _ rfl
structure Ua (b bd k n1 cap1 m cap2:Nat) (a1:Option Addr) (ev eu:List En) (w2:World) (g2 g3 cp:Nat) (w3 W4:World):Prop where
 c0:w2.cell? ⟨b,0,none⟩=some (.int .u8 (k:Int))
 c1:w2.cell? ⟨b,1,none⟩=some (.slice a1 n1 cap1)
 lt:b<w2.heap.size
 run:(QH #[.slice a1 n1 cap1,.slice (some ⟨g2,0,none⟩) m cap2]).run Tryz.prog w2=.ok (.slice (some ⟨g3,0,none⟩) (n1+m) cp) w3
 d1:w3.cell? ⟨b,1,none⟩=some (.slice a1 n1 cap1)
 df:w3.frozen? ⟨b,1,none⟩=false
 w4:w3.setCell ⟨b,1,none⟩ (.slice (some ⟨g3,0,none⟩) (n1+m) cp)=W4
 blk:W4.heap[b]? =some (.cells #[.int .u8 (k:Int),.slice (some ⟨g3,0,none⟩) (n1+m) cp] 209 (0,0))
 own:W4.ownsRow 0 109 5 (.slice (some ⟨g3,0,none⟩) (n1+m) cp) (n1+m) (zf (eu++ev))
 kept:Kept (fun j=>j=b∨(Value.slice a1 n1 cap1).ownBlock=some j) w2 W4
 at_:(Value.slice a1 n1 cap1).ownBlock=some g3∨g3=w2.heap.size
 cap:n1+m≤cp∧cp≤9223372036854775807
theorem Vd{W1 w2:World}{b bd k n1 cap1 m cap2:Nat}{a1 a2:Option Addr}{eu ev:List En}(hb:W1.heap[b]? =some (.cells #[.int .u8 (k:Int),.slice a1 n1 cap1] 209 (0,0)))(h1:W1.ownsRow 0 109 5 (.slice a1 n1 cap1) n1 (zf eu))(hfr:∀j,(Value.slice a1 n1 cap1).ownBlock=some j→j≠b∧j≠bd∧j<W1.heap.size)(hbd:b≠bd)(hk:Kept (fun j=>j=bd) W1.drew w2)
 (h2:w2.ownsRow 0 109 5 (.slice a2 m cap2) m (zf ev)) (hm:ev.length=m) (hm1:1≤m) (hn1:n1≤6) (hm6:m≤6):∃g2,a2=some ⟨g2,0,none⟩∧∃g3 cp w3 W4,Ua b bd k n1 cap1 m cap2 a1 ev eu w2 g2 g3 cp w3 W4:=by
 have hlt:=(lT hb)
 have k12:Kept (fun j=>j=bd) W1 w2:=((Kept.drew (fun _=>False) W1).mono fE).trans hk iL
 have hb2:w2.heap[b]? =_:=(k12.block b hlt hbd).trans hb
 have hlt2:=(lT hb2)
 have ho1:=k12.owns h1 (fun j hj=>(hfr j hj).2.1)
 obtain⟨g2,rfl⟩:∃g2,a2=some ⟨g2,0,none⟩:=by
  rcases h2.2 with⟨_,h0⟩|⟨g,c,cur,hv,_⟩
  ·omega
  ·simp only [Value.slice.injEq] at hv;exact⟨g,hv.1⟩
 obtain⟨g3,cp,w3,hrun,hown,hgrow,hat,hgl⟩:=XE w2 a1 n1 cap1 (zf eu) ho1 g2 m cap2 ev hm h2 hm1 (by omega) (by omega)
 have kG:Kept (fun j=>(Value.slice a1 n1 cap1).ownBlock=some j) w2 w3:=Kept.grown hgrow (fun j hj=>hj)
 have hb3:w3.heap[b]? =_:=(kG.block b hlt2 (fun hc=>(hfr b hc).1 rfl)).trans hb2
 have kS:=Kept.setCell (S:=fun j=>j=b) w3 ⟨b,1,none⟩ (.slice (some ⟨g3,0,none⟩) (n1+m) cp) rfl
 have hg3:g3≠b:=by
  rcases hat with h|h
  ·exact(hfr g3 h).1
  ·omega
 have hfl:zf (eu++ev)=zf eu++zf ev:=by simp [zf]
 refine⟨g2,rfl,g3,cp,w3,_,cR hb2 rfl,cR hb2 rfl,hlt2,hrun,cR hb3 rfl,frozen_of_row w3 b 1 _ _ hb3,rfl,heap_setCell_same w3 b 1 _ _ _ hb3,?_,(kG.mono (fun _ h=>.inr h)).trans kS (fun _ h=>.inl (.inl h)),hat,?_⟩
 ·rw [hfl]
  exact kS.owns hown (fun j hj e0=>by simp [Value.ownBlock] at hj;omega)
 ·rcases hown.2 with⟨h1,h2⟩|⟨g',cap',cur,hv,_,hg,h1,h2,_⟩
  ·cases h1
  ·cases hv;unfold maxLen at h2;omega
theorem KL{w:World}{g n cap:Nat}{es:List En}(hes:es.length=n)(h:w.ownsRow 0 109 5 (.slice (some ⟨g,0,none⟩) n cap) n (zf es))(i:Nat)(hi:i<es.length)(k:ByteArray)(x:Int):
 ((w.setCell ⟨g,i*5,none⟩ (.string k)).setCell ⟨g,i*5+1,none⟩ (.int .i64 x)).ownsRow 0 109 5 (.slice (some ⟨g,0,none⟩) n cap) n (zf (es.set i ⟨⟨k,x⟩,es[i].mark,es[i].size,es[i].at_⟩)):=by
 rcases h.2 with⟨h0,_⟩|⟨g',cap',cur,hv,hb,hg,h1,h2,h3,h4⟩
 ·cases h0
 ·cases hv
  have hcs:cur.toList.length=cap*5:=by simpa using h3
  have hfl:=qM es
  have e0:es=es.take i++es[i]::es.drop (i+1):=by rw [←List.drop_eq_getElem_cons,List.take_append_drop]
  have ef:zf es=zf (es.take i)++(qp es[i]++zf (es.drop (i+1))):=by
   conv=>lhs;rw [e0]
   rw [qF,yW]
  have hlt:(zf (es.take i)).length=i*5:=by rw [qM,List.length_take];congr 1;omega
  have hset:zf (es.set i ⟨⟨k,x⟩,es[i].mark,es[i].size,es[i].at_⟩)=(zf es).take (i*5)++[.string k,.int .i64 x]++(zf es).drop (i*5+2):=by
   rw [List.set_eq_take_append_cons_drop,if_pos hi,qF,yW,ef]
   generalize zf (es.take i)=A at*
   have t1:(A++(qp es[i]++zf (es.drop (i+1)))).take (i*5)=A:=by rw [←hlt];exact List.take_left
   have t2:(A++(qp es[i]++zf (es.drop (i+1)))).drop (i*5+2)=(qp es[i]++zf (es.drop (i+1))).drop 2:=by rw [←hlt];exact List.drop_length_add_append _
   rw [t1,t2]
   simp [qp]
  have hl:i*5+[Value.string k,Value.int .i64 x].length≤cur.size:=by
   have h5:cur.size=cap*5:=h3
   simp only [List.length_cons,List.length_nil]
   omega
  have hh:=zY g 109 [.string k,.int .i64 x] (i*5) w cur hg hl
  refine⟨by rw [qM,List.length_set,hes],.inr ⟨g,cap,_,rfl,hb,hh,h1,h2,?_,?_⟩⟩
  ·simp
   omega
  ·show (cur.toList.take (i*5)++[Value.string k,Value.int .i64 x]++cur.toList.drop (i*5+2)).take (n*5)=_
   rw [hset,←h4]
   rw [List.take_append,List.take_of_length_le (by simp;omega)]
   congr 1
   ·rw [List.take_take,Nat.min_eq_left (by omega)]
   ·rw [List.drop_take]
    congr 1
    simp
    omega
section
attribute [local go_sem ↓] gl
theorem ZN(bc bd:Nat)(S:Nat→Prop)(D:Dk)(C:Ck)(m:List UInt8)(hm:qn (C.look D 2) m)(es:List En)(hn:es.length≤6)(c r:Nat)(hr:max c 1=r)(hrl:r<es.length)(la i:Nat)(hla:es[r-1].at_=la)(hra:es[r].at_=i+21)(hlat:la<65536)(hla2:la≠2)(hi:i<979)(k:Nat)(hk:k=4∨k=5)(eu ev:List En)(hu:∀e∈eu,e.Ok)(hv:∀e∈ev,e.Ok)(hu4:k=4→∀e∈eu,e.mark=false∧e.size=0)(hv4:k=4→∀e∈ev,e.mark=false∧e.size=0)(hul:eu.length≤6)(hvl:ev.length≤6)(hv1:1≤ev.length)(hlu:C.look D la=zl (za k eu))(hlv:C.look D ((i+21:Nat):Int)=zl (za k ev))(hfew:C.ws.length<800)
 (es2:List En) (C2:Ck) (hcase:((eu++ev).length≤6∧es2=es.eraseIdx r∧C2=(C.put la (zl (za k (eu++ev)))).free m i)∨(6<(eu++ev).length∧es2=es.set r ⟨((eu++ev).getD ((eu++ev).length/2) vX).pl,es[r].mark,es[r].size,es[r].at_⟩∧C2=(C.put la (zl (za k ((eu++ev).take ((eu++ev).length/2))))).put (i+21) (zl (za k ((eu++ev).drop ((eu++ev).length/2)))))):
 dO bc bd S D C es c es2 C2:=by
 refine⟨fun w T rr g cap hr0 hr1 hcw hown hgS hgT=>?_⟩
 obtain⟨q,rfl⟩:∃q,r=q+1:=⟨r-1,by omega⟩
 have HH:Hid (Cw w bc bd S T {D with reads:=rr} C):=hcw
 have HM:Hid (qn (C.look D 2) m):=hm
 have HO:Hid (w.ownsRow 0 109 5 (.slice (some ⟨g,0,none⟩) es.length cap) es.length (zf es)):=hown
 have HU:Hid (∀e∈eu,e.Ok):=hu
 have HV:Hid (∀e∈ev,e.Ok):=hv
 have HU4:Hid (k=4→∀e∈eu,e.mark=false∧e.size=0):=hu4
 have HV4:Hid (k=4→∀e∈ev,e.mark=false∧e.size=0):=hv4
 have HLU:Hid (C.look D la=zl (za k eu)):=hlu
 have HLV:Hid (C.look D ((i+21:Nat):Int)=zl (za k ev)):=hlv
 have HCASE:Hid _:=hcase
 have hbd:bd<w.heap.size:=hcw.disk.lt bd hcw.disk.bdS
 have HTL:Hid (∀j,T j→j<w.heap.size):=hcw.chg.lt
 have HSL:Hid (∀j,S j→j<w.heap.size):=hcw.disk.lt
 have hgl:=(hown.lt g rfl).2
 have HGS:Hid (¬S g):=hgS
 have HGT:Hid (¬T g):=hgT
 have hgbd:g≠bd:=fun e=>hgS (by rw [e];exact hcw.disk.bdS)
 have HR:Hid (max c 1=q+1):=hr
 have HAT:Hid (w.cell? ⟨g,q*5+4,none⟩=some (.int .i64 (la:Int))∧w.cell? ⟨g,(q+1)*5+4,none⟩=some (.int .i64 ((i:Int)+21))):=by
  have hR:zH w (fun _=>True) (some ⟨g,0,none⟩) es:=zH.of_own hown (fun _ _=>trivial) (by omega)
  obtain⟨-, -, -, -, e1, -⟩:=hR.cells q (by omega)
  obtain⟨-, -, -, -, e2, -⟩:=hR.cells (q+1) hrl
  simp only [Nat.add_sub_cancel] at hla
  rw [hla] at e1
  rw [hra] at e2
  simp only [Nat.zero_add] at e1 e2
  exact⟨e1,by rw [e2];simp⟩
 clear hcw hm hown hu hv hu4 hv4 hlu hlv hcase hgS hgT hr hla hra
 have HK0:Hid (Kept (fun _=>False) w ((w.alloc (.cells #[.int .u8 4,.slice (some ⟨g,0,none⟩) es.length cap] 209)).alloc (.cells #[.int .u8 0,.slice none 0 0] 209))):=Kept.alloc2 _ _ _
 have HBn:Hid (((w.alloc (.cells #[.int .u8 4,.slice (some ⟨g,0,none⟩) es.length cap] 209)).alloc (.cells #[.int .u8 0,.slice none 0 0] 209)).heap[w.heap.size]? =some (.cells #[.int .u8 4,.slice (some ⟨g,0,none⟩) es.length cap] 209 (0,0))):=((Kept.alloc (fun _=>False) _ _).block w.heap.size (by simp) id).trans (heap_alloc_new w _)
 have HBr:Hid (((w.alloc (.cells #[.int .u8 4,.slice (some ⟨g,0,none⟩) es.length cap] 209)).alloc (.cells #[.int .u8 0,.slice none 0 0] 209)).heap[w.heap.size+1]? =some (.cells #[.int .u8 0,.slice none 0 0] 209 (0,0))):=heap_alloc2_new w _ _
 have hsW:((w.alloc (.cells #[.int .u8 4,.slice (some ⟨g,0,none⟩) es.length cap] 209)).alloc (.cells #[.int .u8 0,.slice none 0 0] 209)).heap.size=w.heap.size+2:=by simp
 go_enter Tryz.func180,Tryz.ntmps180
 go_wp2_with fail
 case' inl=>
  have e:(Value.int .i64 1)=.int .i64 ((q:Int)+1):=by have:=HR.out;congr 1;omega
  conv=>arg 4;rw [e]
  clear e
 case' inr=>
  have e:(Value.int .i64 (c:Int))=.int .i64 ((q:Int)+1):=by have:=HR.out;congr 1;omega
  conv=>arg 4;rw [e]
  clear e
 all_goals
  clear h
  generalize ((w.alloc (.cells #[.int .u8 4,.slice (some ⟨g,0,none⟩) es.length cap] 209)).alloc (.cells #[.int .u8 0,.slice none 0 0] 209))=W at*
  have hnn:W.cell? ⟨w.heap.size,1,none⟩=some (.slice (some ⟨g,0,none⟩) es.length cap):=cR HBn.out rfl
  have hcl:W.cell? ⟨g,q*5+4,none⟩=some (.int .i64 (la:Int)):=(HK0.out.cell (a:=⟨g,q*5+4,none⟩) hgl id).trans HAT.out.1
  have hcr:W.cell? ⟨g,(q+1)*5+4,none⟩=some (.int .i64 ((i:Int)+21)):=(HK0.out.cell (a:=⟨g,(q+1)*5+4,none⟩) hgl id).trans HAT.out.2
  have hrI:(q:Int)+1<(es.length:Int):=by omega
  have hrI1:(q:Int)<(es.length:Int):=by omega
  have hrI2:(0:Int)≤(q:Int)+1:=by omega
  have hw1:IntKind.i64.wrap ((q:Int)+1-1)=(q:Int):=by rw [Int.add_sub_cancel];exact IntWalk.i64_in _ (by omega)
  have hw2:IntKind.i64.wrap (q:Int)=(q:Int):=IntWalk.i64_in _ (by omega)
  go_region_held3 (fun w'=>w'.cell? ⟨w.heap.size,1,none⟩=some (.slice (some ⟨g,0,none⟩) es.length cap)∧w'.cell? ⟨g,q*5+4,none⟩=some (.int .i64 (la:Int))∧w'.cell? ⟨g,(q+1)*5+4,none⟩=some (.int .i64 ((i:Int)+21))) (go_keep) (fail)
  have HCD:Hid (Cw W.drew bc bd S T {D with reads:=rr} C):=(HH.out.kept0 HK0.out).kept0 (Kept.drew _ W)
  have HLD:Hid (∀(u:World) (n0:Int),0≤n0→n0≤1→Cw u bc bd S T {D with reads:=rr+n0} C→Calls Tryz.prog 174 #[.iface 142 (.pointer (some ⟨bc,0,none⟩)),.int .i64 ((i:Int)+21)] u fun e w'=>∃a' cap',e=.returned (.agg #[.int .u8 (k:Int),.slice a' ev.length cap'])∧(∃n:Int,0≤n∧n≤1∧Cw w' bc bd S T {D with reads:=rr+n0+n} C)∧Kept (fun i=>i=bd) u w'∧w'.ownsRow 0 109 5 (.slice a' ev.length cap') ev.length (zf ev)):=fun u n0 h0 h1 hu=>by
   have:=yf u bc bd S T {D with reads:=rr+n0} C hu (by show 0≤rr+n0;omega) (by show rr+n0≤_;omega) (i+21) (by omega) k ev hk HV.out HV4.out hvl (by rw [zI];exact HLV.out)
   rw [show ((i+21:Nat):Int)=(i:Int)+21 from by omega] at this
   exact this.mono (fun e w' ⟨a',cap',q1,q2,q3,_,q5,_⟩=>⟨a',cap',q1,q2,q3,q5⟩)
  go_wp2_with fail
  refine(yf W.drew bc bd S T {D with reads:=rr} C HCD.out hr0 (by show rr≤_;omega) la hlat k eu hk HU.out HU4.out hul (by rw [zI];exact HLU.out)).mono ?_
  rintro x w1 ⟨a1,cap1,rfl,⟨n1,hn10,hn11,hc1⟩,hk1,hrow1,hown1,hfr1⟩
  have HC1:Hid (Cw w1 bc bd S T {D with reads:=rr+n1} C):=hc1
  have HK1:Hid (Kept (fun j=>j=bd) W.drew w1):=hk1
  have hz1:W.heap.size≤w1.heap.size:=hk1.size
  have HKW1:Hid (Kept (fun j=>j=bd) W w1):=((Kept.drew (fun _=>False) W).mono fE).trans hk1 iL
  have HO1:Hid (w1.ownsRow 0 109 5 (.slice a1 eu.length cap1) eu.length (zf eu)):=hown1
  have HF1:Hid (∀j,(Value.slice a1 eu.length cap1).ownBlock=some j→W.heap.size≤j∧j<w1.heap.size):=fun j hj=>⟨hfr1 j hj,(hown1.lt j hj).2⟩
  clear hc1 hk1 hrow1 hown1 hfr1 hnn hcl hcr
  go_wp2_with fail
  have HKA:Hid (Kept (fun _=>False) w1 (w1.alloc (.cells #[.int .u8 (k:Int),.slice a1 eu.length cap1] 209))):=Kept.alloc _ _ _
  have HBA:Hid ((w1.alloc (.cells #[.int .u8 (k:Int),.slice a1 eu.length cap1] 209)).heap[w1.heap.size]? =some (.cells #[.int .u8 (k:Int),.slice a1 eu.length cap1] 209 (0,0))):=heap_alloc_new w1 _
  have hsA:(w1.alloc (.cells #[.int .u8 (k:Int),.slice a1 eu.length cap1] 209)).heap.size=w1.heap.size+1:=by simp
  generalize (w1.alloc (.cells #[.int .u8 (k:Int),.slice a1 eu.length cap1] 209))=W1 at*
  have HCA:Hid (Cw W1.drew bc bd S T {D with reads:=rr+n1} C):=(HC1.out.kept0 HKA.out).kept0 (Kept.drew _ W1)
  have b1:W1.cell? ⟨w1.heap.size,1,none⟩=some (.slice a1 eu.length cap1):=cR HBA.out rfl
  have bf1:=frozen_of_row W1 w1.heap.size 1 _ _ HBA.out
  have hfd:∀(w:World) (g2 cap2:Nat),(Instr.field 209 (.agg #[.int .u8 (k:Int),.slice (some ⟨g2,0,none⟩) ev.length cap2]) 1).run Tryz.prog w=.ok (.slice (some ⟨g2,0,none⟩) ev.length cap2) w:=fun _ _ _=>by kernel_rfl
  have hlA:w1.heap.size<W1.heap.size:=by omega
  go_region_law (go_simp;go_at_call 174;refine(HLD.out _ n1 hn10 hn11 (by exact HCA.out)).mono ?_;rintro x w2 ⟨a2,cap2,rfl,⟨n2,hn20,hn21,hc2⟩,hk2,hown2⟩;have HC2:Hid (Cw w2 bc bd S T {D with reads:=rr+n1+n2} C):=hc2;have HK2:Hid (Kept (fun j=>j=bd) W1.drew w2):=hk2;obtain⟨g2,rfl,g3,cp,w3,W4,hmd⟩:=Vd (bd:=bd) HBA.out (HKA.out.owns HO1.out nF) (fun j hj=>by have:=HF1.out j hj;omega) (by omega) hk2 hown2 rfl hv1 hul hvl;have HMD:Hid (Ua w1.heap.size bd k eu.length cap1 ev.length cap2 a1 ev eu w2 g2 g3 cp w3 W4):=hmd;have e0:=hmd.c0;have e1:=hmd.c1;have e2:=hmd.lt;have e3:=hmd.run;have e4:=hmd.d1;have e5:=hmd.df;clear hc2 hk2 hown2 hmd;dsimp only)
 all_goals
  rw [HMD.out.w4]
  have HBW:Hid (W4.heap[w1.heap.size]? =_):=HMD.out.blk
  have hz2:W1.heap.size≤w2.heap.size:=HK2.out.size
  have hz4:=HMD.out.kept.size
  have HF1':Hid (∀j,(Value.slice a1 eu.length cap1).ownBlock=some j→W.heap.size≤j∧j<w1.heap.size):=HF1.out
  have HKW2:Hid (Kept (fun j=>j=bd) W w2):=((HKW1.out.trans HKA.out fE).trans (Kept.drew (fun _=>False) W1) fE).trans HK2.out iL
  have HNW:Hid (∀j,j<W.heap.size→¬(j=w1.heap.size∨(Value.slice a1 eu.length cap1).ownBlock=some j)):=fun j hj hc=>by
   rcases hc with h|h
   ·omega
   ·have:=HF1'.out j h;omega
  have HKW4:Hid (Kept (fun j=>j=bd∨W.heap.size≤j) W W4):=(HKW2.out.mono iL).trans HMD.out.kept (fun j hj=>.inl (.inr (by
   rcases hj with h|h
   ·omega
   ·exact(HF1'.out j h).1)))
  have HC4:Hid (Cw W4 bc bd S T {D with reads:=rr+n1+n2} C):=HC2.out.kept HMD.out.kept (fun j hj hc=>HNW.out j (by have:=HSL.out j hj;omega) hc) (fun j hj hc=>HNW.out j (by have:=HTL.out j hj;omega) hc)
  have HG3:Hid (W.heap.size≤g3∧g3≠w1.heap.size):=by
   rcases HMD.out.at_ with h|h
   ·have:=HF1'.out g3 h;exact⟨this.1,by omega⟩
   ·exact⟨by omega,by omega⟩
  have HO4:Hid (W4.ownsRow 0 109 5 (.slice (some ⟨g3,0,none⟩) (eu.length+ev.length) cp) (eu.length+ev.length) (zf (eu++ev))):=HMD.out.own
  have HCP:Hid (eu.length+ev.length≤cp∧cp≤9223372036854775807):=HMD.out.cap
  have HBn4:Hid (W4.heap[w.heap.size]? =_):=(HKW4.out.block _ (by omega) (by omega)).trans HBn.out
  have HBr4:Hid (W4.heap[w.heap.size+1]? =_):=(HKW4.out.block _ (by omega) (by omega)).trans HBr.out
  have HO0:Hid (W4.ownsRow 0 109 5 (.slice (some ⟨g,0,none⟩) es.length cap) es.length (zf es)):=HKW4.out.owns (HK0.out.owns HO.out nF) (fun j hj hc=>by simp [Value.ownBlock] at hj;omega)
  have HG3l:Hid (g3<W4.heap.size):=(HO4.out.lt g3 rfl).2
  clear e0 e1 e2 e3 e4 e5 b1 bf1 hfd
  have c0:W4.cell? ⟨w1.heap.size,0,none⟩=some (.int .u8 (k:Int)):=cR HBW.out rfl
  have c1:W4.cell? ⟨w1.heap.size,1,none⟩=some (.slice (some ⟨g3,0,none⟩) (eu.length+ev.length) cp):=cR HBW.out rfl
  have HRM:Hid (((room k:Nat):Int)=6):=by
   show ((room k:Nat):Int)=6
   rcases hk with rfl|rfl<;>decide
  have hk6:k≤6:=by omega
  have hlb:w1.heap.size<W4.heap.size:=by omega
  clear HMD HK2 HC2 HKA HBA HCA HLD HC1 HKW1 HO1 HF1 HNW HKW2
  go_wp2_with fail
  go_region_held3 (fun w'=>w'.cell? ⟨w1.heap.size,0,none⟩=some (.int .u8 (k:Int))∧w'.cell? ⟨w1.heap.size,1,none⟩=some (.slice (some ⟨g3,0,none⟩) (eu.length+ev.length) cp)) (go_keep) ((go_at_call 129;refine(jh _ k hk6).mono ?_;rintro e w5 ⟨rfl,hw5⟩;rw [hw5,HRM.out];clear hw5 w5))
  have HKd:Hid (Kept (fun _=>False) W4 W4.drew):=Kept.drew _ W4
  have HCd:Hid (Cw W4.drew bc bd S T {D with reads:=rr+n1+n2} C):=HC4.out.kept0 HKd.out
  have HRd:Hid (zH W4.drew (fun j=>j=g3) (some ⟨g3,0,none⟩) (eu++ev)):=by
   have h1:=HKd.out.owns HO4.out nF
   rw [←List.length_append] at h1
   exact zH.of_own h1 (fun j hj=>by simp [Value.ownBlock] at hj;exact hj.symm) (by rw [List.length_append];omega)
  have HOKs:Hid (∀e∈eu++ev,e.Ok):=fun e he=>(List.mem_append.1 he).elim (HU.out e) (HV.out e)
  have HNT:Hid (∀j,w.heap.size≤j→¬T j):=fun j hj hc=>by have:=HTL.out j hc;omega
  have HBnd:Hid (W4.drew.heap[w.heap.size]? =_):=HBn4.out
  have HBrd:Hid (W4.drew.heap[w.heap.size+1]? =_):=HBr4.out
  have HOd:Hid (W4.drew.ownsRow 0 109 5 (.slice (some ⟨g,0,none⟩) es.length cap) es.length (zf es)):=HKd.out.owns HO0.out nF
  have HKwd:Hid (Kept (fun j=>j=bd) w W4.drew):=((HK0.out.mono fE).trans HKW4.out (fun j hj=>hj.elim .inl (fun h=>.inr (by omega)))).trans HKd.out fE
  have d0:W4.drew.cell? ⟨w1.heap.size,0,none⟩=some (.int .u8 (k:Int)):=c0
  have d1:W4.drew.cell? ⟨w1.heap.size,1,none⟩=some (.slice (some ⟨g3,0,none⟩) (eu.length+ev.length) cp):=c1
  have hsd:W4.drew.heap.size=W4.heap.size:=rfl
  clear c0 c1
  have hdn:W4.drew.cell? ⟨w.heap.size,1,none⟩=some (.slice (some ⟨g,0,none⟩) es.length cap):=cR HBnd.out rfl
  have HLE:Hid (eu.length+ev.length=(eu++ev).length):=by show _=_;rw [List.length_append]
  generalize W4.drew=X at*
  rcases HCASE.out with⟨hsum,hes2,hC2⟩|⟨hsum,hes2,hC2⟩
  ·have HE2:Hid (es2=es.eraseIdx (q+1)):=hes2
   have HC2:Hid (C2=(C.put la (zl (za k (eu++ev)))).free m i):=hC2
   have hle:(eu.length:Int)+(ev.length:Int)≤6:=by rw [List.length_append] at hsum;omega
   have HSUM:Hid ((eu++ev).length≤6):=hsum
   clear hes2 hC2 hsum HCASE
   go_wp2_with fail
   refine(jQ X bc bd S T _ C HCd.out _ _ cp k hk (eu++ev) HRd.out HOKs.out HSUM.out la (by omega) _ HLE.out.symm).mono ?_
   rintro x w6 ⟨rfl,⟨T6,hc6,hT6⟩,hk6⟩
   have HC6:Hid (Cw w6 bc bd S T6 {D with reads:=rr+n1+n2} (C.put la (zl (za k (eu++ev))))):=hc6
   have HT6:Hid (∀j,T6 j→T j∨X.heap.size≤j):=hT6
   have HK6:Hid (Kept T X w6):=hk6
   have hz6:=hk6.size
   clear hc6 hT6 hk6
   have HNT6:Hid (∀j,j<X.heap.size→¬T j→¬(j=bd∨T6 j)∨j=bd):=fun j hj hn=>by
    by_cases h:j=bd
    ·exact .inr h
    ·exact .inl (fun hc=>hc.elim h (fun h6=>(HT6.out j h6).elim hn (fun h=>by omega)))
   have hfew6:=qq C la (zl (za k (eu++ev)))
   have HMM:Hid (qn ((C.put la (zl (za k (eu++ev)))).look {D with reads:=rr+n1+n2} 2) m):=by show qn _ m;rw [zI];exact HM.out.put la _ hla2
   go_wp2_with fail
   refine(vR w6 bc bd S T6 _ _ HC6.out m HMM.out (by show 0≤rr+n1+n2;omega) (by show rr+n1+n2≤_;omega) (by omega) i hi).mono ?_
   rintro x w7 ⟨rfl,⟨n7,T7,hn70,hn71,hc7,hT7⟩,hk7⟩
   have HC7:Hid (Cw w7 bc bd S T7 {D with reads:=rr+n1+n2+n7} ((C.put la (zl (za k (eu++ev)))).free m i)):=hc7
   have HT7:Hid (∀j,T7 j→T6 j∨w6.heap.size≤j):=hT7
   have HK7:Hid (Kept (fun j=>j=bd∨T6 j) w6 w7):=hk7
   have hz7:=hk7.size
   clear hc7 hT7 hk7
   have HKX7:Hid (Kept (fun j=>j=bd∨T j) X w7):=(HK6.out.mono (fun _ h=>.inr h)).trans HK7.out (fun j hj=>by
    rcases hj with h|h
    ·exact .inl (.inl h)
    ·exact(HT6.out j h).imp .inr id)
   have HN7:Hid (∀j,w.heap.size≤j→¬(j=bd∨T j)):=fun j hj hc=>hc.elim (fun h=>by omega) (HNT.out j hj)
   have HBn7:Hid (w7.heap[w.heap.size]? =_):=(HKX7.out.block _ (by omega) (HN7.out _ (Nat.le_refl _))).trans HBnd.out
   have HBr7:Hid (w7.heap[w.heap.size+1]? =_):=(HKX7.out.block _ (by omega) (HN7.out _ (by omega))).trans HBrd.out
   have HO7:Hid (w7.ownsRow 0 109 5 (.slice (some ⟨g,0,none⟩) es.length cap) es.length (zf es)):=HKX7.out.owns HOd.out (fun j hj hc=>by simp [Value.ownBlock] at hj;subst hj;exact hc.elim hgbd HGT.out)
   have hn7:w7.cell? ⟨w.heap.size,1,none⟩=some (.slice (some ⟨g,0,none⟩) es.length cap):=cR HBn7.out rfl
   clear hdn d0 d1
   have HDL:Hid (Calls Tryz.prog 181 #[.slice (some ⟨g,0,none⟩) es.length cap,.int .i64 ((q:Int)+1),.int .i64 ((q:Int)+1+1)] w7 fun e w'=>e=.returned (.slice (some ⟨g,0,none⟩) (es.length-1) cap)∧w'.ownsRow 0 109 5 (.slice (some ⟨g,0,none⟩) (es.length-1) cap) (es.length-1) (zf (es.eraseIdx (q+1)))∧Kept (fun j=>j=g) w7 w'):=by
    have:=vP w7 g es.length cap es rfl HO7.out (q+1) hrl (by omega)
    simp only [Int.natCast_add,Int.cast_ofNat_Int] at this
    exact this
   go_wp2_with fail
   refine HDL.out.mono ?_
   rintro x w8 ⟨rfl,ho8,hk8⟩
   have HO8:Hid _:=ho8
   have HK8:Hid (Kept (fun j=>j=g) w7 w8):=hk8
   have hz8:=hk8.size
   have HBn8:Hid (w8.heap[w.heap.size]? =_):=(hk8.block _ (by omega) (by omega)).trans HBn7.out
   have HBr8:Hid (w8.heap[w.heap.size+1]? =_):=(hk8.block _ (by omega) (by omega)).trans HBr7.out
   clear ho8 hk8 hn7
   have f0:w8.cell? ⟨w.heap.size,0,none⟩=some (.int .u8 4):=cR HBn8.out rfl
   have f1:w8.cell? ⟨w.heap.size,1,none⟩=some (.slice (some ⟨g,0,none⟩) es.length cap):=cR HBn8.out rfl
   have ff:=frozen_of_row w8 w.heap.size 1 _ _ HBn8.out
   have g0:w8.cell? ⟨w.heap.size+1,0,none⟩=some (.int .u8 0):=cR HBr8.out rfl
   have g1:w8.cell? ⟨w.heap.size+1,1,none⟩=some (.slice none 0 0):=cR HBr8.out rfl
   have gf0:=frozen_of_row w8 (w.heap.size+1) 0 _ _ HBr8.out
   have gf1:=frozen_of_row w8 (w.heap.size+1) 1 _ _ HBr8.out
   go_wp2
   have hB8:=heap_setCell_same w8 w.heap.size 1 _ _ (.slice (some ⟨g,0,none⟩) (es.length-1) cap) HBn8.out
   have k8:=Kept.setCell (S:=fun j=>j=w.heap.size) w8 ⟨w.heap.size,1,none⟩ (.slice (some ⟨g,0,none⟩) (es.length-1) cap) rfl
   have hR8:=(k8.block _ (by omega) (by omega)).trans HBr8.out
   generalize w8.setCell ⟨w.heap.size,1,none⟩ (.slice (some ⟨g,0,none⟩) (es.length-1) cap)=Y at*
   have hh1:=heap_setCell_same Y (w.heap.size+1) 0 _ _ (.int .u8 4) hR8
   have hh2:=heap_setCell_same _ (w.heap.size+1) 1 _ _ (.slice (some ⟨g,0,none⟩) (es.length-1) cap) hh1
   have k9:Kept (fun j=>j=w.heap.size+1) Y ((Y.setCell ⟨w.heap.size+1,0,none⟩ (.int .u8 4)).setCell ⟨w.heap.size+1,1,none⟩ (.slice (some ⟨g,0,none⟩) (es.length-1) cap)):=(Kept.setCell (S:=fun j=>j=w.heap.size+1) Y ⟨w.heap.size+1,0,none⟩ _ rfl).trans (Kept.setCell (S:=fun j=>j=w.heap.size+1) _ ⟨w.heap.size+1,1,none⟩ _ rfl) iL
   have k79:Kept (fun j=>j=g∨j=w.heap.size∨j=w.heap.size+1) w7 ((Y.setCell ⟨w.heap.size+1,0,none⟩ (.int .u8 4)).setCell ⟨w.heap.size+1,1,none⟩ (.slice (some ⟨g,0,none⟩) (es.length-1) cap)):=((HK8.out.mono iL).trans k8 (fun j hj=>.inl (.inr (.inl hj)))).trans k9 (fun j hj=>.inl (.inr (.inr hj)))
   have hl2:es2.length=es.length-1:=by rw [HE2.out,List.length_eraseIdx_of_lt hrl]
   refine bodyPost_ret (v:=.agg #[.int .u8 4,.slice (some ⟨g,0,none⟩) (es.length-1) cap]) (results_cell_row Tryz.results180 _ _ (w.heap.size+1) 209 _ (0,0) _ rfl hh2 Tryz.underlying209 rfl (by kernel_rfl)) rfl ⟨?_,?_,⟨n1+n2+n7,T7,by omega,by omega,?_,fun j hj=>?_⟩,?_⟩
   ·rw [hl2]
   ·rw [hl2,HE2.out]
    exact k9.owns (k8.owns HO8.out (fun j hj e0=>by simp [Value.ownBlock] at hj;omega)) (fun j hj e0=>by simp [Value.ownBlock] at hj;omega)
   ·rw [HC2.out]
    have h1:=HC7.out.kept k79 (fun j hj hc=>by
     have:=HSL.out j hj
     rcases hc with h|h
     ·exact HGS.out (h▸hj)
     ·omega) (fun j hj hc=>by
     have hj':T j∨X.heap.size≤j:=(HT7.out j hj).elim (HT6.out j) (fun h=>.inr (by omega))
     rcases hj' with h1|h1
     ·have:=HTL.out j h1
      rcases hc with h|h
      ·exact HGT.out (h▸h1)
      ·omega
     ·omega)
    simp only [Int.add_assoc] at h1 ⊢
    exact h1
   ·rcases HT7.out j hj with h1|h1
    ·exact(HT6.out j h1).imp id (fun h=>by omega)
    ·exact .inr (by omega)
   ·refine((HKwd.out.mono iL).trans HKX7.out (fun j hj=>.inl (hj.imp id .inl))).trans k79 (fun j hj=>?_)
    rcases hj with h|h
    ·exact .inl (.inr (.inr h))
    ·exact .inr (by omega)
  ·have HE2:Hid (es2=es.set (q+1) ⟨((eu++ev).getD ((eu++ev).length/2) vX).pl,es[q+1].mark,es[q+1].size,es[q+1].at_⟩):=hes2
   have HC2:Hid (C2=(C.put la (zl (za k ((eu++ev).take ((eu++ev).length/2))))).put (i+21) (zl (za k ((eu++ev).drop ((eu++ev).length/2))))):=hC2
   have hle:¬(eu.length:Int)+(ev.length:Int)≤6:=by rw [List.length_append] at hsum;omega
   have HSUM:Hid (6<(eu++ev).length):=hsum
   clear hes2 hC2 hsum HCASE
   have hme:(eu++ev).length/2<(eu++ev).length:=by have:=HSUM.out;omega
   obtain⟨z,hz⟩:∃z,(eu++ev)[(eu++ev).length/2]'hme=z:=⟨_,rfl⟩
   have HZ:Hid ((eu++ev).getD ((eu++ev).length/2) vX=z):=by
    show _=_
    rw [List.getD_eq_getElem?_getD,List.getElem?_eq_getElem hme,Option.getD_some];exact hz
   have HHV:Hid (Calls Tryz.prog 200 #[.agg #[.int .u8 (k:Int),.slice (some ⟨g3,0,none⟩) (eu.length+ev.length) cp],.pointer (some ⟨bc,0,none⟩),.int .i64 (la:Int),.int .i64 ((i:Int)+21)] X.drew fun r w'=>r=.returned (.agg #[.string z.pl.key,.int .i64 z.pl.num])∧(∃T',Cw w' bc bd S T' {D with reads:=rr+n1+n2} C2∧∀j,T' j→T j∨X.heap.size≤j)∧Kept T X.drew w'):=by
    have:=dC X.drew bc bd S T {D with reads:=rr+n1+n2} C (HCd.out.kept0 (Kept.drew _ X)) (fun j=>j=g3) (fun j hj hc=>HNT.out j (by rw [hj];have:=HG3.out.1;omega) hc) (some ⟨g3,0,none⟩) cp k hk (eu++ev) (HRd.out.kept (Kept.drew (fun _=>False) X) nF) HOKs.out ((eu++ev).length/2) rfl hme (by rw [←HLE.out];omega) (by rw [←HLE.out];exact HCP.out.1) HCP.out.2 la (i+21) (by omega)
    rw [hz,←HC2.out,←HLE.out,show ((i+21:Nat):Int)=(i:Int)+21 from by omega] at this
    exact this
   clear hz hme
   have HRX:Hid (zH X (fun _=>True) (some ⟨g,0,none⟩) es):=zH.of_own HOd.out (fun _ _=>trivial) (by omega)
   have HFZ:Hid (∀(u:World) (o:Nat),u.ownsRow 0 109 5 (.slice (some ⟨g,0,none⟩) es.length cap) es.length (zf es)→u.frozen? ⟨g,o,none⟩=false):=fun u o hu=>by
    rcases hu.2 with⟨h0,_⟩|⟨g',cap',cur,hv,hb,hg,_⟩
    ·cases h0
    ·cases hv;exact frozen_of_row u g o _ _ hg
   obtain⟨r0,r1, -, -, -, -, -⟩:=HRX.out.cells (q+1) hrl
   simp only [Nat.zero_add] at r0 r1
   have HR0:Hid (X.cell? ⟨g,(q+1)*5,none⟩=_):=r0
   have HR1:Hid (X.cell? ⟨g,(q+1)*5+1,none⟩=_):=r1
   have HD0:Hid (X.cell? ⟨w1.heap.size,0,none⟩=some (.int .u8 (k:Int))):=d0
   have HD1:Hid (X.cell? ⟨w1.heap.size,1,none⟩=some (.slice (some ⟨g3,0,none⟩) (eu.length+ev.length) cp)):=d1
   have HDN:Hid (X.cell? ⟨w.heap.size,1,none⟩=some (.slice (some ⟨g,0,none⟩) es.length cap)):=hdn
   have ne1:¬w.heap.size=g:=by omega
   have ne2:¬w1.heap.size=g:=by omega
   have ne1':¬g=w.heap.size:=by omega
   have ne2':¬g=w1.heap.size:=by omega
   have hlg:g<X.heap.size:=by omega
   have hlw:w.heap.size<X.heap.size:=by omega
   have hl1:w1.heap.size<X.heap.size:=by omega
   have HNw:Hid (¬T w.heap.size∧¬T w1.heap.size):=⟨HNT.out _ (Nat.le_refl _),HNT.out _ (by omega)⟩
   clear r0 r1
   go_wp2_with fail
   go_region_held3 (fun w'=>w'.cell? ⟨w.heap.size,1,none⟩=some (.slice (some ⟨g,0,none⟩) es.length cap)∧w'.cell? ⟨w1.heap.size,0,none⟩=some (.int .u8 (k:Int))∧w'.cell? ⟨w1.heap.size,1,none⟩=some (.slice (some ⟨g3,0,none⟩) (eu.length+ev.length) cp)) (go_keep) ((go_at_call 200;refine HHV.out.mono ?_;rintro x w5 ⟨rfl,⟨T5,hc5,hT5⟩,hk5⟩;have HC5:Hid (Cw w5 bc bd S T5 {D with reads:=rr+n1+n2} C2):=hc5;have HT5:Hid (∀j,T5 j→T j∨X.heap.size≤j):=hT5;have HK5:Hid (Kept T X.drew w5):=hk5;have z1:w5.cell? ⟨w.heap.size,1,none⟩=some (.slice (some ⟨g,0,none⟩) es.length cap):=(hk5.cell (a:=⟨w.heap.size,1,none⟩) hlw HNw.out.1).trans HDN.out;have z2:w5.cell? ⟨w1.heap.size,0,none⟩=some (.int .u8 (k:Int)):=(hk5.cell (a:=⟨w1.heap.size,0,none⟩) hl1 HNw.out.2).trans HD0.out;have z3:w5.cell? ⟨w1.heap.size,1,none⟩=some (.slice (some ⟨g3,0,none⟩) (eu.length+ev.length) cp):=(hk5.cell (a:=⟨w1.heap.size,1,none⟩) hl1 HNw.out.2).trans HD1.out;have HO5:Hid (w5.ownsRow 0 109 5 (.slice (some ⟨g,0,none⟩) es.length cap) es.length (zf es)):=hk5.owns ((Kept.drew (fun _=>False) X).owns HOd.out nF) (fun j hj hc=>by simp [Value.ownBlock] at hj;subst hj;exact HGT.out hc);have z4:w5.cell? ⟨g,(q+1)*5,none⟩=some (.string es[q+1].pl.key):=(hk5.cell (a:=⟨g,(q+1)*5,none⟩) hlg HGT.out).trans HR0.out;have z5:w5.cell? ⟨g,(q+1)*5+1,none⟩=some (.int .i64 es[q+1].pl.num):=(hk5.cell (a:=⟨g,(q+1)*5+1,none⟩) hlg HGT.out).trans HR1.out;have z6:=HFZ.out w5 ((q+1)*5) HO5.out;have z7:=HFZ.out w5 ((q+1)*5+1) HO5.out;clear hc5 hT5 hk5))
   have hz5:X.heap.size≤w5.heap.size:=HK5.out.size
   have HB5:Hid (w5.heap[w.heap.size]? =_):=(HK5.out.block _ hlw HNw.out.1).trans HBnd.out
   have HBR5:Hid (w5.heap[w.heap.size+1]? =_):=(HK5.out.block _ (show w.heap.size+1<X.heap.size by omega) (HNT.out _ (by omega))).trans HBrd.out
   have HOs:=KL rfl HO5.out (q+1) hrl z.pl.key z.pl.num
   have HKs:Hid (Kept (fun j=>j=g) w5 ((w5.setCell ⟨g,(q+1)*5,none⟩ (.string z.pl.key)).setCell ⟨g,(q+1)*5+1,none⟩ (.int .i64 z.pl.num))):=(Kept.setCell (S:=fun j=>j=g) w5 ⟨g,(q+1)*5,none⟩ _ rfl).trans (Kept.setCell (S:=fun j=>j=g) _ ⟨g,(q+1)*5+1,none⟩ _ rfl) iL
   have HOS:Hid _:=HOs
   clear HOs z1 z2 z3 z4 z5 z6 z7
   generalize ((w5.setCell ⟨g,(q+1)*5,none⟩ (.string z.pl.key)).setCell ⟨g,(q+1)*5+1,none⟩ (.int .i64 z.pl.num))=Y at*
   have hzY:=HKs.out.size
   have HBn8:Hid (Y.heap[w.heap.size]? =_):=(HKs.out.block _ (by omega) ne1).trans HB5.out
   have HBr8:Hid (Y.heap[w.heap.size+1]? =_):=(HKs.out.block _ (by omega) (by omega)).trans HBR5.out
   have f0:Y.cell? ⟨w.heap.size,0,none⟩=some (.int .u8 4):=cR HBn8.out rfl
   have f1:Y.cell? ⟨w.heap.size,1,none⟩=some (.slice (some ⟨g,0,none⟩) es.length cap):=cR HBn8.out rfl
   have g0:Y.cell? ⟨w.heap.size+1,0,none⟩=some (.int .u8 0):=cR HBr8.out rfl
   have g1:Y.cell? ⟨w.heap.size+1,1,none⟩=some (.slice none 0 0):=cR HBr8.out rfl
   have gf0:=frozen_of_row Y (w.heap.size+1) 0 _ _ HBr8.out
   have gf1:=frozen_of_row Y (w.heap.size+1) 1 _ _ HBr8.out
   clear hdn d0 d1
   go_wp2
   have hh1:=heap_setCell_same Y (w.heap.size+1) 0 _ _ (.int .u8 4) HBr8.out
   have hh2:=heap_setCell_same _ (w.heap.size+1) 1 _ _ (.slice (some ⟨g,0,none⟩) es.length cap) hh1
   have k9:Kept (fun j=>j=w.heap.size+1) Y ((Y.setCell ⟨w.heap.size+1,0,none⟩ (.int .u8 4)).setCell ⟨w.heap.size+1,1,none⟩ (.slice (some ⟨g,0,none⟩) es.length cap)):=(Kept.setCell (S:=fun j=>j=w.heap.size+1) Y ⟨w.heap.size+1,0,none⟩ _ rfl).trans (Kept.setCell (S:=fun j=>j=w.heap.size+1) _ ⟨w.heap.size+1,1,none⟩ _ rfl) iL
   have k59:Kept (fun j=>j=g∨j=w.heap.size+1) w5 ((Y.setCell ⟨w.heap.size+1,0,none⟩ (.int .u8 4)).setCell ⟨w.heap.size+1,1,none⟩ (.slice (some ⟨g,0,none⟩) es.length cap)):=(HKs.out.mono iL).trans k9 (fun _ h=>.inl (.inr h))
   have hl2:es2.length=es.length:=by rw [HE2.out,List.length_set]
   refine bodyPost_ret (v:=.agg #[.int .u8 4,.slice (some ⟨g,0,none⟩) es.length cap]) (results_cell_row Tryz.results180 _ _ (w.heap.size+1) 209 _ (0,0) _ rfl hh2 Tryz.underlying209 rfl (by kernel_rfl)) rfl ⟨?_,?_,⟨n1+n2,T5,by omega,by omega,?_,fun j hj=>(HT5.out j hj).imp id (fun h=>by omega)⟩,?_⟩
   ·rw [hl2]
   ·rw [hl2,HE2.out,HZ.out]
    exact k9.owns HOS.out (fun j hj e0=>by simp [Value.ownBlock] at hj;omega)
   ·have h1:=HC5.out.kept k59 (fun j hj hc=>by
     have:=HSL.out j hj
     rcases hc with h|h
     ·exact HGS.out (h▸hj)
     ·omega) (fun j hj hc=>by
     rcases HT5.out j hj with h1|h1
     ·have:=HTL.out j h1
      rcases hc with h|h
      ·exact HGT.out (h▸h1)
      ·omega
     ·omega)
    simp only [Int.add_assoc] at h1 ⊢
    exact h1
   ·refine(((HKwd.out.mono iL).trans (Kept.drew (fun _=>False) X) fE).trans HK5.out (fun j hj=>.inl (.inr (.inl hj)))).trans k59 (fun j hj=>?_)
    rcases hj with h|h
    ·exact .inl (.inr (.inr h))
    ·exact .inr (by omega)
end
structure kt (bc bd:Nat) (S T:Nat→Prop) (D:Dk) (C:Ck) (h at_:Nat) (p:Pl) (v:List Value) (s ok:Bool) (C':Ck):Prop where
 go:∀(w:World) (r:Int),0≤r→r+(4*h:Nat)≤4611686018427370000→Cw w bc bd S T {D with reads:=r} C→
  Calls Tryz.prog 141 #[.pointer (some ⟨bc,0,none⟩),.int .i64 at_,.agg #[.string p.key,.int .i64 p.num]] w fun x w'=>x=.returned (.tuple #[.agg v.toArray,.bool s,.bool ok])∧(∃(n:Int) (T':Nat→Prop),0≤n∧n≤(4*h+1:Nat)∧Cw w' bc bd S T' {D with reads:=r+n} C'∧∀j,T' j→T j∨w.heap.size≤j)∧Kept (fun j=>j=bd∨T j) w w'
structure J5 (bc bd:Nat) (S T:Nat→Prop) (D:Dk) (C:Ck) (at_:Nat) (p:Pl) (M:Nat) (v:List Value) (s ok:Bool) (C':Ck):Prop where
 go:∀(w0:World) (n0:Int),0≤n0→n0≤1→Cw w0 bc bd S T {D with reads:=D.reads+n0} C→Calls Tryz.prog 141 #[.pointer (some ⟨bc,0,none⟩),.int .i64 at_,.agg #[.string p.key,.int .i64 p.num]] w0 fun r w'=>r=.returned (.tuple #[.agg v.toArray,.bool s,.bool ok])∧(∃(n:Int) (T':Nat→Prop),0≤n∧n≤M∧Cw w' bc bd S T' {D with reads:=D.reads+n0+n} C'∧∀j,T' j→T j∨w0.heap.size≤j)∧Kept (fun j=>j=bd∨T j) w0 w'
structure VP (w W:World) (p:Pl):Prop where
 kept:Kept (fun _=>False) w W
 pl:W.heap[w.heap.size]? =some (.cells #[.string p.key,.int .i64 p.num] 107 (0,0))
 res:W.heap[w.heap.size+1]? =some (.cells #[.string ⟨#[]⟩,.int .i64 0,.bool false,.int .i64 0,.int .i64 0] 109 (0,0))
 size:W.heap.size=w.heap.size+2
theorem J6(w:World)(p:Pl):VP w ((w.alloc (.cells #[.string p.key,.int .i64 p.num] 107)).alloc (.cells #[.string ⟨#[]⟩,.int .i64 0,.bool false,.int .i64 0,.int .i64 0] 109)) p:=
 ⟨Kept.alloc2 _ _ _,((Kept.alloc (fun _=>False) _ _).block w.heap.size (by simp) id).trans (heap_alloc_new w _),heap_alloc2_new w _ _,by simp⟩
theorem yE{P:Program}{fn:Func}{p u v:Tmp}{ty:TypeId}(h:fn.results=#[.cell p ty,.tmp u,.tmp v])(tmps:Array Value)(w:World)(g:Nat)(t:TypeId)(cs:Array Value)(fr:Nat×Nat)(d:TypeDesc)
 (hp:tmps.getD p undef=.pointer (some ⟨g,0,none⟩)) (hg:w.heap[g]? =some (.cells cs t fr))
 (hu:P.underlying ty=some d) (hd:(match d with|.struct _|.array _ _=>true|_=>false)=true) (hi:(P.info? ty).map (·.size)=some cs.size):
 (results fn tmps).run P w=.ok (.tuple #[.agg cs,tmps.getD u undef,tmps.getD v undef]) w:=by
 have hp':tmps[p]?.getD undef=.pointer (some ⟨g,0,none⟩):=by simpa using hp
 simp [results,h,hp',asAddr,run_loadVar_row w g t ty cs fr d hg hu hd hi]
theorem xM(w:World)(n b:Nat)(t:TypeId)(a0 a1 a2 a3 a4 v0 v1 v2 v3 v4:Value)(h:w.heap[b]? =some (.cells #[a0,a1,a2,a3,a4] t (0,0))):
 ((((((w.drewN n).setCell ⟨b,0,none⟩ v0).setCell ⟨b,1,none⟩ v1).setCell ⟨b,2,none⟩ v2).setCell ⟨b,3,none⟩ v3).setCell ⟨b,4,none⟩ v4).heap[b]? =some (.cells #[v0,v1,v2,v3,v4] t (0,0))∧Kept (fun j=>j=b) w ((((((w.drewN n).setCell ⟨b,0,none⟩ v0).setCell ⟨b,1,none⟩ v1).setCell ⟨b,2,none⟩ v2).setCell ⟨b,3,none⟩ v3).setCell ⟨b,4,none⟩ v4):=by
 obtain⟨h1,h2⟩:=jD (w.drewN n) b t a0 a1 a2 a3 a4 v0 v1 v2 v3 v4 h
 exact⟨h1,Kept.trans (b:=w.drewN n) kD h2 iL⟩
theorem J7{a b:Pl}(h:a≠b):(a.key.toList==b.key.toList)=false∨((a.key.toList==b.key.toList)=true∧(a.num==b.num)=false):=by
 by_cases hk:a.key=b.key
 ·refine .inr ⟨by rw [hk];simp,?_⟩
  have:¬a.num=b.num:=fun e=>h (by cases a;cases b;simp only at hk e;rw [hk,e])
  simpa using this
 ·exact .inl (by have:=mt vn.1 hk;simpa using this)
theorem ZO(w:World)(bc bd:Nat)(S T:Nat→Prop)(D:Dk)(C:Ck)(h:Cw w bc bd S T D C)(hr0:0≤D.reads)(hr1:D.reads≤4611686018427380000)(at_:Nat)(hat:at_<65536)(es:List En)(hes:∀e∈es,e.Ok)(hlen:es.length≤6)(hs:yg es)(hl:C.look D at_=zl (za 5 es))(p:Pl)(hno:∀hi:zm es p<es.length,es[zm es p].pl≠p):
 Calls Tryz.prog 141 #[.pointer (some ⟨bc,0,none⟩),.int .i64 at_,.agg #[.string p.key,.int .i64 p.num]] w fun x w'=>x=.returned (.tuple #[.agg qo.toArray,.bool false,.bool false])∧(∃n:Int,0≤n∧n≤1∧Cw w' bc bd S T {D with reads:=D.reads+n} C)∧Kept (fun j=>j=bd) w w':=by
 have HH:Hid _:=h
 have HES:Hid (∀e∈es,e.Ok):=hes
 have HS:Hid (yg es):=hs
 have HL:Hid _:=hl
 have HNO:Hid (∀hi:zm es p<es.length,es[zm es p].pl≠p):=hno
 have hbd:bd<w.heap.size:=h.disk.lt bd h.disk.bdS
 clear h hes hs hl hno
 have HW:Hid _:=J6 w p
 unfold qo
 go_enter Tryz.func141,Tryz.ntmps141
 go_wp2_with fail
 generalize ((w.alloc (.cells #[.string p.key,.int .i64 p.num] 107)).alloc (.cells #[.string ⟨#[]⟩,.int .i64 0,.bool false,.int .i64 0,.int .i64 0] 109))=W at*
 refine(yf W bc bd S T D C (HH.out.kept0 HW.out.kept) hr0 (by omega) at_ hat 5 es (.inr rfl) HES.out (fun h=>absurd h (by decide)) hlen HL.out).mono ?_
 rintro r w1 ⟨a,cap,rfl,⟨n1,hn0,hn1,hc1⟩,hk1,hrow1,hown1,hfr1⟩
 have HC1:Hid _:=hc1
 have HK1:Hid (Kept (fun j=>j=bd) W w1):=hk1
 have HRW1:Hid _:=hrow1
 have hsW:=HW.out.size
 have hsz1:=hk1.size
 have HBp1:Hid (w1.heap[w.heap.size]? =_):=(hk1.block _ (by omega) (by omega)).trans HW.out.pl
 have HBr1:Hid (w1.heap[w.heap.size+1]? =_):=(hk1.block _ (by omega) (by omega)).trans HW.out.res
 clear hc1 hk1 hown1 hfr1 hrow1
 have x0:w1.cell? ⟨w.heap.size,0,none⟩=some (.string p.key):=cR HBp1.out rfl
 have x1:w1.cell? ⟨w.heap.size,1,none⟩=some (.int .i64 p.num):=cR HBp1.out rfl
 have hlw1:w.heap.size<w1.heap.size:=by omega
 go_wp2_with fail
 have HKN:Hid (Kept (fun _=>False) w1 (w1.alloc (.cells #[.int .u8 5,.slice a es.length cap] 209))):=Kept.alloc _ _ _
 have HBN:Hid ((w1.alloc (.cells #[.int .u8 5,.slice a es.length cap] 209)).heap[w1.heap.size]? =some (.cells #[.int .u8 5,.slice a es.length cap] 209 (0,0))):=heap_alloc_new w1 _
 have hsN:(w1.alloc (.cells #[.int .u8 5,.slice a es.length cap] 209)).heap.size=w1.heap.size+1:=by simp
 generalize (w1.alloc (.cells #[.int .u8 5,.slice a es.length cap] 209))=WN at*
 refine(xC WN _ a cap es (HRW1.out.kept HKN.out nF) HS.out 5 p).mono ?_
 rintro r w2 ⟨rfl,hk2⟩
 have HK2:Hid (Kept (fun _=>False) w1 w2):=HKN.out.trans hk2 iL
 have hsz2:=hk2.size
 have HBN2:Hid (w2.heap[w1.heap.size]? =_):=(hk2.block _ (by omega) id).trans HBN.out
 have HBp2:Hid (w2.heap[w.heap.size]? =_):=(HK2.out.block _ (by omega) id).trans HBp1.out
 have HBr2:Hid (w2.heap[w.heap.size+1]? =_):=(HK2.out.block _ (by omega) id).trans HBr1.out
 have HRW2:Hid (zH w2 (fun b=>W.heap.size≤b) a es):=HRW1.out.kept HK2.out nF
 clear hk2 x0 x1
 have y0:w2.cell? ⟨w.heap.size,0,none⟩=some (.string p.key):=cR HBp2.out rfl
 have y1:w2.cell? ⟨w.heap.size,1,none⟩=some (.int .i64 p.num):=cR HBp2.out rfl
 have z0:w2.cell? ⟨w1.heap.size,0,none⟩=some (.int .u8 5):=cR HBN2.out rfl
 have z1:w2.cell? ⟨w1.heap.size,1,none⟩=some (.slice a es.length cap):=cR HBN2.out rfl
 have hfi:=xh es p
 have FIN:Hid (∀(W3:World) (tmps:Array Value),W3.heap[w.heap.size+1]? =some (.cells #[.string ⟨#[]⟩,.int .i64 0,.bool false,.int .i64 0,.int .i64 0] 109 (0,0))→Kept (fun j=>j=w.heap.size+1) w2 W3→tmps.getD 6 undef=.pointer (some ⟨w.heap.size+1,0,none⟩)→tmps.getD 7 undef=.bool false→tmps.getD 8 undef=.bool false→bodyPost Tryz.prog Tryz.f141 (fun x w'=>x=.returned (.tuple #[.agg #[.string ⟨#[]⟩,.int .i64 0,.bool false,.int .i64 0,.int .i64 0],.bool false,.bool false])∧(∃n:Int,0≤n∧n≤1∧Cw w' bc bd S T {D with reads:=D.reads+n} C)∧Kept (fun j=>j=bd) w w') .ret {tmps:=tmps,defers:=[]} W3):=by
  intro W3 tmps hb k3 h6 h7 h8
  refine bodyPost_ret (yE rfl _ _ _ _ _ _ _ h6 hb Tryz.underlying109 rfl (by kernel_rfl)) rfl ⟨by rw [h7,h8],⟨n1,hn0,hn1,(HC1.out.kept0 HK2.out).kept k3 (fun j hj e0=>by have:=HH.out.disk.lt j hj;omega) (fun j hj e0=>by have:=HH.out.chg.lt j hj;omega)⟩,?_⟩
  exact(((HW.out.kept.mono fE).trans HK1.out iL).trans HK2.out fE).trans k3 (fun j hj=>.inr (by omega))
 have q0:w2.cell? ⟨w.heap.size+1,0,none⟩=some (.string ⟨#[]⟩):=cR HBr2.out rfl
 have q1:w2.cell? ⟨w.heap.size+1,1,none⟩=some (.int .i64 0):=cR HBr2.out rfl
 have q2:w2.cell? ⟨w.heap.size+1,2,none⟩=some (.bool false):=cR HBr2.out rfl
 have q3:w2.cell? ⟨w.heap.size+1,3,none⟩=some (.int .i64 0):=cR HBr2.out rfl
 have q4:w2.cell? ⟨w.heap.size+1,4,none⟩=some (.int .i64 0):=cR HBr2.out rfl
 have f0:=frozen_of_row w2 (w.heap.size+1) 0 _ _ HBr2.out
 have f1:=frozen_of_row w2 (w.heap.size+1) 1 _ _ HBr2.out
 have f2:=frozen_of_row w2 (w.heap.size+1) 2 _ _ HBr2.out
 have f3:=frozen_of_row w2 (w.heap.size+1) 3 _ _ HBr2.out
 have f4:=frozen_of_row w2 (w.heap.size+1) 4 _ _ HBr2.out
 by_cases hend:zm es p=es.length
 ·have hie:(((zm es p:Nat):Int)==(es.length:Int))=true:=by rw [hend];simp
  clear HNO
  generalize zm es p=i at*
  clear hend
  go_wp2_with fail
  go_quiet (fail)
  go_wp2
  exact FIN.out _ _ (xM w2 _ _ _ _ _ _ _ _ _ _ _ _ _ HBr2.out).1 (xM w2 _ _ _ _ _ _ _ _ _ _ _ _ _ HBr2.out).2 rfl rfl rfl
 ·have hlt:zm es p<es.length:=by omega
  have hie:(((zm es p:Nat):Int)==(es.length:Int))=false:=beq_false_of_ne (by omega)
  have hne:=HNO.out hlt
  obtain⟨g,o,rfl⟩:=HRW2.out.base (by omega)
  obtain⟨e0,e1, -, -, -, -, -⟩:=HRW2.out.cells (zm es p) hlt
  have hap:=J7 hne
  clear hne HNO
  generalize es[zm es p].pl.key=ek at*
  generalize es[zm es p].pl.num=en at*
  generalize zm es p=i at*
  have hiI:(i:Int)<(es.length:Int):=by omega
  rcases hap with hkb|⟨hkb,hnb⟩
  all_goals
   go_wp2_with fail
   go_quiet (fail)
   go_wp2
   exact FIN.out _ _ (xM w2 _ _ _ _ _ _ _ _ _ _ _ _ _ HBr2.out).1 (xM w2 _ _ _ _ _ _ _ _ _ _ _ _ _ HBr2.out).2 rfl rfl rfl
theorem ZP(w:World)(bc bd:Nat)(S T:Nat→Prop)(D:Dk)(C:Ck)(h:Cw w bc bd S T D C)(hr0:0≤D.reads)(hr1:D.reads≤4611686018427380000)(at_:Nat)(hat:at_<65536)(es:List En)(hes:∀e∈es,e.Ok)(hlen:es.length≤6)(hs:yg es)(hl:C.look D at_=zl (za 5 es))(p:Pl)(i:Nat)(hfi:zm es p=i)(hi:i<es.length)(he:es[i].pl=p)(hfew:C.ws.length<700)(es':List En)(hes':es.eraseIdx i=es')(s:Bool)(hsc:decide ((es'.length:Int)<3)=s):
 Calls Tryz.prog 141 #[.pointer (some ⟨bc,0,none⟩),.int .i64 at_,.agg #[.string p.key,.int .i64 p.num]] w fun x w'=>x=.returned (.tuple #[.agg (qp es[i]).toArray,.bool s,.bool true])∧(∃(n:Int) (T':Nat→Prop),0≤n∧n≤1∧Cw w' bc bd S T' {D with reads:=D.reads+n} (C.put at_ (zl (za 5 es')))∧∀j,T' j→T j∨w.heap.size≤j)∧Kept (fun j=>j=bd∨T j) w w':=by
 have HH:Hid _:=h
 have HES:Hid (∀e∈es,e.Ok):=hes
 have HS:Hid (yg es):=hs
 have HL:Hid _:=hl
 have HFI:Hid (zm es p=i):=hfi
 have hlen':es'.length=es.length-1:=by rw [←hes',List.length_eraseIdx_of_lt hi]
 have HE':Hid (es.eraseIdx i=es'):=hes'
 have HSC:Hid (decide ((es'.length:Int)<3)=s):=hsc
 have HOK:Hid (∀x∈es',x.Ok):=fun x hx=>hes x (List.mem_of_mem_eraseIdx (by rw [hes'];exact hx))
 have hbd:bd<w.heap.size:=h.disk.lt bd h.disk.bdS
 have HTL:Hid (∀j,T j→j<w.heap.size):=h.chg.lt
 have HSL:Hid (∀j,S j→j<w.heap.size):=h.disk.lt
 clear h hes hs hl hfi hes' hsc
 have HW:Hid _:=J6 w p
 obtain⟨z,hz⟩:∃z,es[i]=z:=⟨_,rfl⟩
 rw [hz] at he ⊢
 have HZ:Hid (es[i]=z):=hz
 have hkb:(z.pl.key.toList==p.key.toList)=true:=by rw [he];simp
 have hnb:(z.pl.num==p.num)=true:=by rw [he];simp
 clear hz he
 unfold qp
 go_enter Tryz.func141,Tryz.ntmps141
 go_wp2_with fail
 generalize ((w.alloc (.cells #[.string p.key,.int .i64 p.num] 107)).alloc (.cells #[.string ⟨#[]⟩,.int .i64 0,.bool false,.int .i64 0,.int .i64 0] 109))=W at*
 refine(yf W bc bd S T D C (HH.out.kept0 HW.out.kept) hr0 (by omega) at_ hat 5 es (.inr rfl) HES.out (fun h=>absurd h (by decide)) hlen HL.out).mono ?_
 rintro r w1 ⟨a,cap,rfl,⟨n1,hn0,hn1,hc1⟩,hk1,hrow1,hown1,hfr1⟩
 have HC1:Hid _:=hc1
 have HK1:Hid (Kept (fun j=>j=bd) W w1):=hk1
 have HRW1:Hid _:=hrow1
 have HO1:Hid (w1.ownsRow 0 109 5 (.slice a es.length cap) es.length (zf es)):=hown1
 have hsW:=HW.out.size
 have hsz1:=hk1.size
 have HBp1:Hid (w1.heap[w.heap.size]? =_):=(hk1.block _ (by omega) (by omega)).trans HW.out.pl
 have HBr1:Hid (w1.heap[w.heap.size+1]? =_):=(hk1.block _ (by omega) (by omega)).trans HW.out.res
 obtain⟨g,o,rfl⟩:=hrow1.base (by omega)
 obtain rfl:o=0:=by
  rcases hown1.2 with⟨h0,_⟩|⟨g',cap',cur,hv,_⟩
  ·cases h0
  ·simp only [Value.slice.injEq,Option.some.injEq,Addr.mk.injEq] at hv;exact hv.1.2.1
 have hgW:W.heap.size≤g:=hfr1 g rfl
 have hg1:g<w1.heap.size:=(hown1.lt g rfl).2
 clear hc1 hk1 hown1 hfr1 hrow1
 have x0:w1.cell? ⟨w.heap.size,0,none⟩=some (.string p.key):=cR HBp1.out rfl
 have x1:w1.cell? ⟨w.heap.size,1,none⟩=some (.int .i64 p.num):=cR HBp1.out rfl
 have hlw1:w.heap.size<w1.heap.size:=by omega
 go_wp2_with fail
 have HKN:Hid (Kept (fun _=>False) w1 (w1.alloc (.cells #[.int .u8 5,.slice (some ⟨g,0,none⟩) es.length cap] 209))):=Kept.alloc _ _ _
 have HBN:Hid ((w1.alloc (.cells #[.int .u8 5,.slice (some ⟨g,0,none⟩) es.length cap] 209)).heap[w1.heap.size]? =some (.cells #[.int .u8 5,.slice (some ⟨g,0,none⟩) es.length cap] 209 (0,0))):=heap_alloc_new w1 _
 have hsN:(w1.alloc (.cells #[.int .u8 5,.slice (some ⟨g,0,none⟩) es.length cap] 209)).heap.size=w1.heap.size+1:=by simp
 generalize (w1.alloc (.cells #[.int .u8 5,.slice (some ⟨g,0,none⟩) es.length cap] 209))=WN at*
 refine(xC WN _ _ cap es (HRW1.out.kept HKN.out nF) HS.out 5 p).mono ?_
 rintro r w2 ⟨rfl,hk2⟩
 rw [HFI.out]
 have HK2:Hid (Kept (fun _=>False) w1 w2):=HKN.out.trans hk2 iL
 have hsz2:=hk2.size
 have HBN2:Hid (w2.heap[w1.heap.size]? =_):=(hk2.block _ (by omega) id).trans HBN.out
 have HBp2:Hid (w2.heap[w.heap.size]? =_):=(HK2.out.block _ (by omega) id).trans HBp1.out
 have HBr2:Hid (w2.heap[w.heap.size+1]? =_):=(HK2.out.block _ (by omega) id).trans HBr1.out
 have HRW2:Hid (zH w2 (fun b=>W.heap.size≤b) (some ⟨g,0,none⟩) es):=HRW1.out.kept HK2.out nF
 clear hk2 x0 x1
 have y0:w2.cell? ⟨w.heap.size,0,none⟩=some (.string p.key):=cR HBp2.out rfl
 have y1:w2.cell? ⟨w.heap.size,1,none⟩=some (.int .i64 p.num):=cR HBp2.out rfl
 have z0:w2.cell? ⟨w1.heap.size,0,none⟩=some (.int .u8 5):=cR HBN2.out rfl
 have z1:w2.cell? ⟨w1.heap.size,1,none⟩=some (.slice (some ⟨g,0,none⟩) es.length cap):=cR HBN2.out rfl
 have hcells:=HRW2.out.cells i hi
 rw [HZ.out] at hcells
 simp only [Nat.zero_add] at hcells
 obtain⟨e0,e1,e2,e3,e4, -, -⟩:=hcells
 have hie:((i:Int)==(es.length:Int))=false:=beq_false_of_ne (by omega)
 have hiI:(i:Int)<(es.length:Int):=by omega
 have q0:w2.cell? ⟨w.heap.size+1,0,none⟩=some (.string ⟨#[]⟩):=cR HBr2.out rfl
 have q1:w2.cell? ⟨w.heap.size+1,1,none⟩=some (.int .i64 0):=cR HBr2.out rfl
 have q2:w2.cell? ⟨w.heap.size+1,2,none⟩=some (.bool false):=cR HBr2.out rfl
 have q3:w2.cell? ⟨w.heap.size+1,3,none⟩=some (.int .i64 0):=cR HBr2.out rfl
 have q4:w2.cell? ⟨w.heap.size+1,4,none⟩=some (.int .i64 0):=cR HBr2.out rfl
 have f0:=frozen_of_row w2 (w.heap.size+1) 0 _ _ HBr2.out
 have f1:=frozen_of_row w2 (w.heap.size+1) 1 _ _ HBr2.out
 have f2:=frozen_of_row w2 (w.heap.size+1) 2 _ _ HBr2.out
 have f3:=frozen_of_row w2 (w.heap.size+1) 3 _ _ HBr2.out
 have f4:=frozen_of_row w2 (w.heap.size+1) 4 _ _ HBr2.out
 have ne1:¬w1.heap.size=w.heap.size+1:=by omega
 go_wp2_with fail
 go_quiet (fail)
 go_wp2_with fail
 obtain⟨hbX,hkX⟩:=xM w2 nq (w.heap.size+1) 109 _ _ _ _ _ (.string z.pl.key) (.int .i64 z.pl.num) (.bool z.mark) (.int .i64 (z.size:Int)) (.int .i64 (z.at_:Int)) HBr2.out
 have HBX:Hid _:=hbX
 have HKX:Hid _:=hkX
 clear hbX hkX q0 q1 q2 q3 q4 f0 f1 f2 f3 f4 e0 e1 e2 e3 e4 y0 y1 z0 z1
 generalize ((((((w2.drewN nq).setCell ⟨w.heap.size+1,0,none⟩ (.string z.pl.key)).setCell ⟨w.heap.size+1,1,none⟩ (.int .i64 z.pl.num)).setCell ⟨w.heap.size+1,2,none⟩ (.bool z.mark)).setCell ⟨w.heap.size+1,3,none⟩ (.int .i64 (z.size:Int))).setCell ⟨w.heap.size+1,4,none⟩ (.int .i64 (z.at_:Int)))=X at*
 have hzX:=HKX.out.size
 have HOX:Hid (X.ownsRow 0 109 5 (.slice (some ⟨g,0,none⟩) es.length cap) es.length (zf es)):=HKX.out.owns (HK2.out.owns HO1.out nF) (fun j hj e0=>by simp [Value.ownBlock] at hj;omega)
 have HBNX:Hid (X.heap[w1.heap.size]? =_):=(HKX.out.block _ (by omega) (by omega)).trans HBN2.out
 refine(vP X g es.length cap es rfl HOX.out i hi (by omega)).mono ?_
 rintro r w3 ⟨rfl,ho3,hk3⟩
 rw [HE'.out] at ho3
 have HO3:Hid (w3.ownsRow 0 109 5 (.slice (some ⟨g,0,none⟩) (es.length-1) cap) (es.length-1) (zf es')):=ho3
 have HK3:Hid (Kept (fun j=>j=g) X w3):=hk3
 have hz3:=hk3.size
 have HBX3:Hid (w3.heap[w.heap.size+1]? =_):=(hk3.block _ (by omega) (by omega)).trans HBX.out
 have HBN3:Hid (w3.heap[w1.heap.size]? =_):=(hk3.block _ (by omega) (by omega)).trans HBNX.out
 clear ho3 hk3
 have p0:w3.cell? ⟨w1.heap.size,0,none⟩=some (.int .u8 5):=cR HBN3.out rfl
 have p1:w3.cell? ⟨w1.heap.size,1,none⟩=some (.slice (some ⟨g,0,none⟩) es.length cap):=cR HBN3.out rfl
 have pf:=frozen_of_row w3 w1.heap.size 1 _ _ HBN3.out
 go_wp2_with fail
 have HB4:Hid ((w3.setCell ⟨w1.heap.size,1,none⟩ (.slice (some ⟨g,0,none⟩) (es.length-1) cap)).heap[w1.heap.size]? =some (.cells #[.int .u8 5,.slice (some ⟨g,0,none⟩) (es.length-1) cap] 209 (0,0))):=heap_setCell_same w3 w1.heap.size 1 _ _ _ HBN3.out
 have HKS:Hid (Kept (fun j=>j=w1.heap.size) w3 (w3.setCell ⟨w1.heap.size,1,none⟩ (.slice (some ⟨g,0,none⟩) (es.length-1) cap))):=Kept.setCell (S:=fun j=>j=w1.heap.size) w3 ⟨w1.heap.size,1,none⟩ _ rfl
 generalize (w3.setCell ⟨w1.heap.size,1,none⟩ (.slice (some ⟨g,0,none⟩) (es.length-1) cap))=W4 at*
 clear p0 p1 pf
 have hz4:=HKS.out.size
 have HBX4:Hid (W4.heap[w.heap.size+1]? =_):=(HKS.out.block _ (by omega) (by omega)).trans HBX3.out
 have HO4:Hid (W4.ownsRow 0 109 5 (.slice (some ⟨g,0,none⟩) (es.length-1) cap) (es.length-1) (zf es')):=HKS.out.owns HO3.out (fun j hj e0=>by simp [Value.ownBlock] at hj;omega)
 have HR4:Hid (zH W4 (fun j=>j=g) (some ⟨g,0,none⟩) es'):=by
  have:=HO4.out
  rw [←hlen'] at this
  exact zH.of_own this (fun j hj=>by simp [Value.ownBlock] at hj;exact hj.symm) (by omega)
 have HK14:Hid (Kept (fun j=>w.heap.size≤j) w1 W4):=(((HK2.out.mono fE).trans HKX.out (fun j hj=>.inl (by omega))).trans HK3.out (fun j hj=>.inl (by omega))).trans HKS.out (fun j hj=>.inl (by omega))
 have HC4:Hid (Cw W4 bc bd S T {D with reads:=D.reads+n1} C):=HC1.out.kept HK14.out (fun j hj hc=>by have:=HSL.out j hj;omega) (fun j hj hc=>by have:=HTL.out j hj;omega)
 have HKw4:Hid (Kept (fun j=>j=bd) w W4):=((HW.out.kept.mono fE).trans HK1.out iL).trans HK14.out (fun j hj=>.inr hj)
 refine(jQ W4 bc bd S T _ C HC4.out _ _ cap 5 (.inr rfl) es' HR4.out HOK.out (by omega) at_ (by omega) _ hlen').mono ?_
 rintro r w5 ⟨rfl,⟨T5,hc5,hT5⟩,hk5⟩
 have HC5:Hid _:=hc5
 have HT5:Hid _:=hT5
 have HK5:Hid (Kept T W4 w5):=hk5
 have hz5:=hk5.size
 have HNT:Hid (∀j,w.heap.size≤j→¬T j):=fun j hj hc=>by have:=HTL.out j hc;omega
 have HBX5:Hid (w5.heap[w.heap.size+1]? =_):=(hk5.block _ (by omega) (HNT.out _ (by omega))).trans HBX4.out
 have HBN5:Hid (w5.heap[w1.heap.size]? =_):=(hk5.block _ (by omega) (HNT.out _ (by omega))).trans HB4.out
 clear hc5 hT5 hk5
 have HSCA:Hid (∀u,Calls Tryz.prog 182 #[.agg #[.int .u8 5,.slice (some ⟨g,0,none⟩) (es.length-1) cap]] u fun e w'=>e=.returned (.bool s)∧Kept (fun _=>False) u w'):=fun u=>by
  have:=dM u 5 (.inr rfl) (some ⟨g,0,none⟩) (es.length-1) cap
  rw [←hlen',HSC.out] at this
  rw [←hlen']
  exact this
 have HC6:Hid (∀u,Kept (fun _=>False) w5 u→u.heap[w.heap.size+1]? =some (.cells #[.string z.pl.key,.int .i64 z.pl.num,.bool z.mark,.int .i64 (z.size:Int),.int .i64 (z.at_:Int)] 109 (0,0))∧u.heap[w1.heap.size]? =some (.cells #[.int .u8 5,.slice (some ⟨g,0,none⟩) (es.length-1) cap] 209 (0,0))):=fun u k=>⟨(k.block _ (by omega) id).trans HBX5.out,(k.block _ (by omega) id).trans HBN5.out⟩
 have t0:w5.cell? ⟨w.heap.size+1,0,none⟩=some (.string z.pl.key):=cR HBX5.out rfl
 have t1:w5.cell? ⟨w.heap.size+1,1,none⟩=some (.int .i64 z.pl.num):=cR HBX5.out rfl
 have t2:w5.cell? ⟨w.heap.size+1,2,none⟩=some (.bool z.mark):=cR HBX5.out rfl
 have t3:w5.cell? ⟨w.heap.size+1,3,none⟩=some (.int .i64 (z.size:Int)):=cR HBX5.out rfl
 have t4:w5.cell? ⟨w.heap.size+1,4,none⟩=some (.int .i64 (z.at_:Int)):=cR HBX5.out rfl
 have t5:w5.cell? ⟨w1.heap.size,0,none⟩=some (.int .u8 5):=cR HBN5.out rfl
 have t6:w5.cell? ⟨w1.heap.size,1,none⟩=some (.slice (some ⟨g,0,none⟩) (es.length-1) cap):=cR HBN5.out rfl
 have hl5:w.heap.size+1<w5.heap.size:=by omega
 go_wp2_with fail
 go_region_law (go_simp;go_at_call 182;refine(HSCA.out w5.drew).mono ?_;rintro r w6 ⟨rfl,hk6⟩;have HK6:Hid (Kept (fun _=>False) w5 w6):=(Kept.drew (fun _=>False) w5).trans hk6 iL;have hb6:=(HC6.out w6 HK6.out).1;have HB6:Hid (w6.heap[w.heap.size+1]? =some (.cells #[.string z.pl.key,.int .i64 z.pl.num,.bool z.mark,.int .i64 (z.size:Int),.int .i64 (z.at_:Int)] 109 (0,0))):=hb6;have u0:w6.cell? ⟨w.heap.size+1,0,none⟩=some (.string z.pl.key):=(cR hb6 rfl);have u1:w6.cell? ⟨w.heap.size+1,1,none⟩=some (.int .i64 z.pl.num):=(cR hb6 rfl);have u2:w6.cell? ⟨w.heap.size+1,2,none⟩=some (.bool z.mark):=(cR hb6 rfl);have u3:w6.cell? ⟨w.heap.size+1,3,none⟩=some (.int .i64 (z.size:Int)):=(cR hb6 rfl);have u4:w6.cell? ⟨w.heap.size+1,4,none⟩=some (.int .i64 (z.at_:Int)):=(cR hb6 rfl);have v0:=frozen_of_row w6 (w.heap.size+1) 0 _ _ hb6;have v1:=frozen_of_row w6 (w.heap.size+1) 1 _ _ hb6;have v2:=frozen_of_row w6 (w.heap.size+1) 2 _ _ hb6;have v3:=frozen_of_row w6 (w.heap.size+1) 3 _ _ hb6;have v4:=frozen_of_row w6 (w.heap.size+1) 4 _ _ hb6;clear hk6 hb6;dsimp only)
 all_goals
  go_wp2
  obtain⟨hb7,hk7⟩:=jD w6 (w.heap.size+1) 109 _ _ _ _ _ (.string z.pl.key) (.int .i64 z.pl.num) (.bool z.mark) (.int .i64 (z.size:Int)) (.int .i64 (z.at_:Int)) HB6.out
  have k57:=(HK6.out.mono (S':=fun j=>j=w.heap.size+1) fE).trans hk7 iL
  refine bodyPost_ret (yE rfl _ _ _ _ _ _ _ rfl hb7 Tryz.underlying109 rfl (by kernel_rfl)) rfl ⟨rfl,⟨n1,T5,hn0,hn1,HC5.out.kept k57 (fun j hj e0=>?_) (fun j hj e0=>?_),fun j hj=>(HT5.out j hj).imp id (fun h=>by omega)⟩,?_⟩
  ·have:=HSL.out j hj;omega
  ·rcases HT5.out j hj with h1|h1
   ·have:=HTL.out j h1;omega
   ·omega
  ·exact((HKw4.out.mono iL).trans HK5.out (fun _ h=>.inl (.inr h))).trans k57 (fun j hj=>.inr (by omega))
end prog
end Go.Proofs.YtcoengihaobddaaGreatDoor

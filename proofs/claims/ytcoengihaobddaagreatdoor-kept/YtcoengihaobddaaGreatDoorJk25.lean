/- Part 25 of 34 of a proof: At1, BWrite2, Root2, Log2 -/
import Derived.Test.YtcoengihaobddaaGreatDoorJk24
set_option maxHeartbeats 8000000
set_option linter.unusedVariables false
set_option linter.unusedSimpArgs false
set_option maxRecDepth 8000
namespace Go.Proofs.YtcoengihaobddaaGreatDoor
open Go.ChangeShapes Go.WideShapes Go.ChangeAt Go.RowKit disk ref
namespace prog
open Go.MuLone
open keys (ze zd zr zn zu)
theorem JX(w:World)(bs:Nat)(q:Option Nat)(hs:zK w bs 0 q)(key:ByteArray)(num:Int)(hk:key.size≤maxLen)(hkey:zu key.data.toList=false):
 Calls Tryz.prog 42 #[.pointer (some ⟨bs,0,none⟩),.string key,.int .i64 num] w fun e w'=>e=.returned (.tuple #[.slice none 0 0,.int .i64 2])∧zK w' bs 0 q∧Kept (fun k=>k=bs) w w':=by
 have HS:Hid _:=hs
 have HKY:Hid (zu key.data.toList=false):=hkey
 clear hs hkey
 go_enter_defers Tryz.func42,Tryz.ntmps42
 go_wp2_with (first
  |(go_at_call 47;refine(qS HS.out).mono ?_;rintro e w1 ⟨rfl,hs1,hk1⟩;have HS1:Hid _:=hs1;have HK1:Hid (Kept (fun k=>k=bs) w w1):=hk1;clear hs1 hk1)
  |(go_at_call 49;refine(keys.qW key w1 hk).mono ?_;rintro e w2 ⟨rfl,hw2⟩;rw [hw2,HKY.out];clear hw2 w2))
 refine leaves_cons (f:= 48) (args:=#[.pointer (some ⟨bs,0,none⟩)]) (by simp) (by simp [go_sem]) ?_
 refine(qR HS1.out).mono ?_
 rintro e u' w2 ⟨rfl,rfl,hs2,hk2⟩
 exact⟨_,results_tmp2 rfl _ _ _,rfl,hs2,HK1.out.trans hk2 iL⟩
theorem KH(w:World)(bs:Nat)(hs:zK w bs 0 none)(key:ByteArray)(num:Int)(hk:key.size≤maxLen)(hkey:zu key.data.toList=true):
 Calls Tryz.prog 42 #[.pointer (some ⟨bs,0,none⟩),.string key,.int .i64 num] w fun e w'=>e=.returned (.tuple #[.slice none 0 0,.int .i64 8])∧zK w' bs 0 none∧Kept (fun k=>k=bs) w w':=by
 have HS:Hid _:=hs
 have HKY:Hid (zu key.data.toList=true):=hkey
 clear hs hkey
 go_enter_defers Tryz.func42,Tryz.ntmps42
 go_wp2_with (first
  |(go_at_call 47;refine(qS HS.out).mono ?_;rintro e w1 ⟨rfl,hs1,hk1⟩;have HS1:Hid _:=hs1;have HK1:Hid (Kept (fun k=>k=bs) w w1):=hk1;have c2:w1.cell? ⟨bs,2,none⟩=some (.pointer none):=hs1.c2;clear hs1 hk1)
  |(go_at_call 49;refine(keys.qW key w1 hk).mono ?_;rintro e w2 ⟨rfl,hw2⟩;rw [hw2,HKY.out];clear hw2 w2))
 refine leaves_cons (f:= 48) (args:=#[.pointer (some ⟨bs,0,none⟩)]) (by simp) (by simp [go_sem]) ?_
 refine(qR HS1.out).mono ?_
 rintro e u' w2 ⟨rfl,rfl,hs2,hk2⟩
 exact⟨_,results_tmp2 rfl _ _ _,rfl,hs2,HK1.out.trans hk2 iL⟩
def JY(key:ByteArray)(num:Int):Option En→Bool
 |some x=>decide (x.pl.key=key)&&decide (x.pl.num=num)&& !x.mark
 |none=>false
theorem at_none(w:World)(bs bd:Nat)(S:Nat→Prop)(D:Dk)(hs:zK w bs 0 (some bd))(hd:zh w bd S D)(hn:¬S bs)(hr0:0≤D.reads)(hr1:D.reads≤4611686018427350000)(tree n:Nat)(hb:yu (D.look 1) tree n)(key:ByteArray)(num:Int)(hk:key.size≤maxLen)(hkey:zu key.data.toList=true)(es:List En)(bl:List Nat)(hF:ya (fun j=>D.look (j:Nat)) tree es bl)(hbl:bl.length≤979)(hbs:∀j∈bl,21≤j)(o:Option En)(ho:(yN ⟨key,num⟩ es).head? =o)(hnew:JY key num o=false):
 Calls Tryz.prog 42 #[.pointer (some ⟨bs,0,none⟩),.string key,.int .i64 num] w fun e w'=>e=.returned (.tuple #[.slice none 0 0,.int .i64 5])∧zK w' bs 0 (some bd)∧(∃r:Int,D.reads≤r∧r≤D.reads+14∧zh w' bd S {D with reads:=r })∧Kept (fun k=>k=bd∨k=bs) w w':=by
 have HS:Hid _:=hs
 have HD:Hid (zh w bd S D):=hd
 have HKY:Hid (zu key.data.toList=true):=hkey
 have HNEW:Hid (JY key num o=false):=hnew
 have hbd:bd<w.heap.size:=hd.lt bd hd.bdS
 have hne:bs≠bd:=fun e=>hn (by rw [e];exact hd.bdS)
 have HN:Hid (∀j,S j→j≠bs):=fun j hj e=>hn (by rw [←e];exact hj)
 have HNW:Hid (∀w',zK w' bs 1 (some bd)→zh w' bd S D→Calls Tryz.prog 66 #[.pointer (some ⟨bs,0,none⟩),.agg #[.string key,.int .i64 num]] w' fun e w''=>e=.returned (.tuple #[.agg (dh o).toArray,.bool o.isSome])∧(∃r:Int,D.reads≤r∧r≤D.reads+14∧zh w'' bd S {D with reads:=r })∧Kept (fun i=>i=bd) w' w''):=fun w' h1 h2=>by
  have:=dI w' bs bd S D 1 h1 h2 hn hr0 (by omega) tree n hb ⟨key,num⟩ es bl hF hbl hbs
  rw [ho] at this;exact this
 obtain⟨v0,v1,v2,v3,v4,hv,hat⟩:∃(v0:ByteArray) (v1:Int) (v2:Bool) (v3 v4:Int),dh o=[.string v0,.int .i64 v1,.bool v2,.int .i64 v3,.int .i64 v4]∧JY key num o=(o.isSome&&(decide (v0=key)&&decide (v1=num)&& !v2)):=by
  cases o with
  |none=>exact⟨_,_,_,_,_,rfl,rfl⟩
  |some x=>exact⟨_,_,_,_,_,rfl,rfl⟩
 have HAT:Hid (JY key num o=(o.isSome&&(decide (v0=key)&&decide (v1=num)&& !v2))):=hat
 clear hat
 have HV:Hid (dh o=[.string v0,.int .i64 v1,.bool v2,.int .i64 v3,.int .i64 v4]):=hv
 clear hs hd hb hF hbs ho hkey hv hnew
 go_enter_defers Tryz.func42,Tryz.ntmps42
 go_wp2_with (first
  |(go_at_call 47;refine(qS HS.out).mono ?_;rintro e w1 ⟨rfl,hs1,hk1⟩;have HS1:Hid _:=hs1;have HK1:Hid (Kept (fun k=>k=bs) w w1):=hk1;have c2:w1.cell? ⟨bs,2,none⟩=some (.pointer (some ⟨bd,0,none⟩)):=hs1.c2;clear hs1 hk1)
  |(go_at_call 49;refine(keys.qW key w1 hk).mono ?_;rintro e w2 ⟨rfl,hw2⟩;rw [hw2,HKY.out];clear hw2 w2))
 have HK0:Hid (Kept (fun _=>False) w1 (w1.alloc (.cells #[.string key,.int .i64 num] 107))):=Kept.alloc _ _ _
 have HB0:Hid ((w1.alloc (.cells #[.string key,.int .i64 num] 107)).heap[w1.heap.size]? =some (.cells #[.string key,.int .i64 num] 107 (0,0))):=heap_alloc_new w1 _
 have hs0:(w1.alloc (.cells #[.string key,.int .i64 num] 107)).heap.size=w1.heap.size+1:=by simp
 generalize (w1.alloc (.cells #[.string key,.int .i64 num] 107))=W1 at*
 have hz1:=HK1.out.size
 refine(HNW.out W1 (HS1.out.kept HK0.out id) ((HD.out.kept HK1.out HN.out).kept HK0.out nF)).mono ?_
 rintro e w2 ⟨rfl,⟨r2,hr2a,hr2b,hd2⟩,hk2⟩
 have HD2:Hid (zh w2 bd S {D with reads:=r2 }):=hd2
 have HK2:Hid (Kept (fun i=>i=bd) W1 w2):=hk2
 have hz2:=hk2.size
 have HB2:Hid (w2.heap[w1.heap.size]? =_):=(hk2.block _ (by omega) (by omega)).trans HB0.out
 clear hd2 hk2
 rw [HV.out]
 have HNEW2:Hid ((o.isSome&&(decide (v0=key)&&decide (v1=num)&& !v2))=false):=by
  show (o.isSome&&(decide (v0=key)&&decide (v1=num)&& !v2))=false
  rw [←HAT.out];exact HNEW.out
 generalize o.isSome=f at*
 have HKA:Hid (Kept (fun _=>False) w2 (w2.alloc (.cells #[.string v0,.int .i64 v1,.bool v2,.int .i64 v3,.int .i64 v4] 109))):=Kept.alloc _ _ _
 have hsA:(w2.alloc (.cells #[.string v0,.int .i64 v1,.bool v2,.int .i64 v3,.int .i64 v4] 109)).heap.size=w2.heap.size+1:=by simp
 have q0:w2.cell? ⟨w1.heap.size,0,none⟩=some (.string key):=cR HB2.out rfl
 have q1:w2.cell? ⟨w1.heap.size,1,none⟩=some (.int .i64 num):=cR HB2.out rfl
 have hlt12:w1.heap.size<w2.heap.size:=by omega
 have FIN:Hid (∀W3:World,W3=(w2.alloc (.cells #[.string v0,.int .i64 v1,.bool v2,.int .i64 v3,.int .i64 v4] 109))→∀tmps:Array Value,tmps.getD 6 undef=.slice none 0 0→tmps.getD 7 undef=.int .i64 5→bodyPostD Tryz.prog Tryz.f42 (fun e w'=>e=.returned (.tuple #[.slice none 0 0,.int .i64 5])∧zK w' bs 0 (some bd)∧(∃r:Int,D.reads≤r∧r≤D.reads+14∧zh w' bd S {D with reads:=r })∧Kept (fun k=>k=bd∨k=bs) w w') .ret {tmps:=tmps,defers:=[{target:=.fn (.func 48) #[],args:=#[.pointer (some ⟨bs,0,none⟩)] }]} W3):=by
  rintro W3 rfl tmps h6 h7
  refine leaves_cons (f:= 48) (args:=#[.pointer (some ⟨bs,0,none⟩)]) (by simp) (by simp [go_sem]) ?_
  refine(qR (((HS1.out.kept HK0.out id).kept HK2.out hne).kept HKA.out id)).mono ?_
  rintro e u' w5 ⟨rfl,rfl,hs5,hk5⟩
  refine⟨_,results_tmp2 rfl _ _ _,?_,hs5,⟨r2,hr2a,hr2b,(HD2.out.kept HKA.out nF).kept hk5 HN.out⟩,?_⟩
  ·rw [h6,h7]
  ·exact((((HK1.out.mono (S':=fun k=>k=bd∨k=bs) (fun _ h=>.inr h)).trans HK0.out fE).trans HK2.out (fun _ h=>.inl (.inl h))).trans HKA.out fE).trans hk5 (fun _ h=>.inl (.inr h))
 cases f with
 |false=>
  go_wp2
  exact FIN.out _ rfl _ rfl rfl
 |true=>
  by_cases hke:v0.toList=key.toList
  ·have hkb:(v0.toList==key.toList)=true:=by simp [hke]
   have HKE:Hid (v0=key):=vn.1 hke
   clear hke
   by_cases hnu:v1=num
   ·have hnb:(v1==num)=true:=by simp [hnu]
    have hv2:v2=true:=by
     have:=HNEW2.out
     rw [HKE.out,hnu] at this
     cases v2
     ·simp at this
     ·rfl
    subst hv2
    clear hnu
    go_wp2
    exact FIN.out _ rfl _ rfl rfl
   ·have hnb:(v1==num)=false:=by simpa using hnu
    clear hnu
    go_wp2
    exact FIN.out _ rfl _ rfl rfl
  ·have hkb:(v0.toList==key.toList)=false:=by simpa using hke
   clear hke
   go_wp2
   exact FIN.out _ rfl _ rfl rfl
end prog
namespace prog
open keys (ze zd zr zn)
attribute [local go_sem] Oper.semAt_some
theorem XB(W:World)(b1:Nat)(a:Option Addr)(c:Nat)(enc:Nat→Value)(Inv:Int→List Nat→World→Prop)
 (hbox:∀r pre A,Inv r pre A→A.heap[b1]? =some (.cells #[.slice a 0 c] 178 (0,0))):
 kF Tryz.prog 169 #[.pointer (some ⟨b1,0,none⟩)] (fun i:Nat=>#[.int .i64 (i:Int),enc i]) (fun _=>False) Inv (fun r pre i A=>r=0∧(pre++[i])<+:q8 0) (fun r xs=>r=0∧xs=q8 0) (fun _ _=>True) 0 W:=by
 intro l J Jx hJi hJs hJy hJ0
 have HJ0:PLift (J 0 [] (fun _=>False) W):=⟨hJ0⟩
 have h1:=hbox _ _ _ (hJi _ _ _ _ hJ0).1
 have c1:W.cell? ⟨b1,0,none⟩=some (.slice a 0 c):=cR h1 rfl
 clear hJi hJs hJy hJ0 hbox h1
 go_enter Tryz.func169,Tryz.ntmps169
 go_wp2_with fail
 go_loopw [3] (fun t wr=>t=.int .i64 (-1)∧wr=W) (fun t _=>0)
 case atStart=>exact⟨rfl,rfl⟩
 case round=>
  obtain⟨rfl,rfl⟩:=hrel
  go_wp2
  go_end0
  exact⟨⟨_,rfl⟩,.inl ⟨0,[],fun _=>False,⟨rfl,rfl⟩,HJ0.down⟩⟩
theorem XC(W:World)(b1:Nat)(a:Option Addr)(m c:Nat)(vs:List Value)(hvs:vs.length=m)(hm:m≤1000)(enc:Nat→Value)(henc:∀i (h:i<vs.length),vs[i]=enc i)(h1:∀i,∃a n c,enc i=.slice a n c)(ha:0<m→∃g,a=some ⟨g,0,none⟩)(Inv:Int→List Nat→World→Prop)
 (hbox:∀r pre A,Inv r pre A→A.heap[b1]? =some (.cells #[.slice a m c] 178 (0,0))∧A.ownsRow 0 35 1 (.slice a m c) m vs)
 (hkp:∀r pre A B,Inv r pre A→Kept (fun _=>False) A B→Inv r pre B):
 kF Tryz.prog 169 #[.pointer (some ⟨b1,0,none⟩)] (fun i:Nat=>#[.int .i64 (i:Int),enc i]) (fun _=>False) Inv (fun r pre i A=>r=0∧(pre++[i])<+:q8 m) (fun r xs=>r=0∧xs=q8 m) (fun _ _=>True) 0 W:=by
 by_cases h0:0<m
 ·obtain⟨g,rfl⟩:=ha h0
  exact JN W b1 g m c vs hvs hm enc henc h1 Inv hbox hkp
 ·obtain rfl:m=0:=by omega
  exact XB W b1 a c enc Inv (fun r pre A h=>(hbox r pre A h).1)
theorem JZ{w:World}{e:TypeId}{a:Option Addr}{n c:Nat}{vs:List Value}(h:w.ownsRow 0 e 1 (.slice a n c) n vs)(h0:0<n):∃g,a=some ⟨g,0,none⟩∧g<w.heap.size:=by
 rcases h.2 with⟨_,h1⟩|⟨g,cap,cur,h1,_,h2,_⟩
 ·omega
 ·simp only [Value.slice.injEq] at h1
  exact⟨g,h1.1,(lT h2)⟩
theorem Vb{w:World}{e:TypeId}{v:Value}{n:Nat}{vs:List Value}(h:w.ownsRow 0 e 1 v n vs):∀k,v.ownBlock=some k→k<w.heap.size:=by
 intro k hk
 rcases h.2 with⟨rfl,h1⟩|⟨g,cap,cur,rfl,_,h2,_⟩
 ·cases hk
 ·simp [Value.ownBlock] at hk
  subst hk
  exact(lT h2)
structure Vx (w1:World) (bc bd:Nat) (S T:Nat→Prop) (D:Dk) (C:Ck) (m:List UInt8) (ls:List (List UInt8)) (b2 b6 bb:Nat) (v:Value) (vs:List Value) (r:Int) (pre:List Nat) (Q:Nat→Prop) (A:World):Prop where
 st:∃(f:Nat) (C1:Ck) (m1:List UInt8) (n:Int) (T1:Nat→Prop),C.body D.bs.length m (ls.drop (ls.length-pre.length))=(f,C1,m1)∧0≤n∧n≤pre.length∧Cw A bc bd S T1 {D with reads:=D.reads+n} C1∧(∀j,T1 j→T j∨w1.heap.size+2≤j)∧A.heap[b6]? =some (.cells #[.int .i64 (f:Int)] 3 (0,0))∧∀k,Q k↔T1 k∧w1.heap.size+2≤k
 len:pre.length≤ls.length
 box:A.heap[b2]? =some (.cells #[.pointer (some ⟨bc,0,none⟩)] 142 (0,0))
 back:A.heap[bb]? =some (.cells #[v] 178 (0,0))∧A.ownsRow 0 35 1 v ls.length vs
 kept:Kept (fun k=>k=bd∨T k∨k=b6∨w1.heap.size≤k) w1 A
 r:r=0
theorem Vx.by{w1:World}{bc bd:Nat}{S T:Nat→Prop}{D:Dk}{C:Ck}{m:List UInt8}{ls:List (List UInt8)}{b2 b6 bb:Nat}{v:Value}{vs:List Value}{r r':Int}{pre:List Nat}{Q Z:Nat→Prop}{A B:World}(h:Vx w1 bc bd S T D C m ls b2 b6 bb v vs r pre Q A)(hk:Kept Z A B)(hZ:∀k,Z k→w1.heap.size≤k∧k≤w1.heap.size+1)(hr:r'=0)(hS:∀k,S k→k<w1.heap.size)(hT:∀k,T k→k<w1.heap.size)(h2:b2<w1.heap.size)(h6:b6<w1.heap.size)(hb:bb<w1.heap.size)(hg:∀k,v.ownBlock=some k→k<w1.heap.size):Vx w1 bc bd S T D C m ls b2 b6 bb v vs r' pre Q B:=by
 obtain⟨f,C1,m1,n,T1,k1,k2,k3,k4,k5,k6,k7⟩:=h.st
 have nz:∀b,b<w1.heap.size→¬Z b:=fun b hb hc=>by have:=hZ b hc;omega
 refine⟨⟨f,C1,m1,n,T1,k1,k2,k3,k4.kept hk (fun j hj=>nz j (hS j hj)) (fun j hj hc=>?_),k5,(hk.block _ (lT k6) (nz _ h6)).trans k6,k7⟩,h.len,(hk.block _ (lT h.box) (nz _ h2)).trans h.box,⟨(hk.block _ (lT h.back.1) (nz _ hb)).trans h.back.1,hk.owns h.back.2 (fun j hj=>nz j (hg j hj))⟩,h.kept.trans hk (fun i hi=>.inl (.inr (.inr (.inr (hZ i hi).1)))),hr⟩
 rcases k5 j hj with h|h
 ·exact nz j (hT j h) hc
 ·have:=hZ j hc;omega
section
attribute [local go_sem ↓] xD K7
theorem Q5(w:World)(bc bd:Nat)(S T:Nat→Prop)(D:Dk)(C:Ck)(h:Cw w bc bd S T D C)(m:List UInt8)(hm:qn (C.look D 2) m)(hr0:0≤D.reads)(hr1:D.reads≤4611686018427380000)(P:Nat→Prop)(a:Option Addr)(cap:Nat)(l:List UInt8)(hb:zv w P a l)(hPT:∀j,P j→¬T j)(hPd:∀j,P j→j≠bd)(hl:l.length≤300)(hc1:l.length≤cap)(hc2:cap≤9223372036854775807)(hN:D.bs.length≤1000)(hfew:C.ws.length<600)(f':Nat)(C':Ck)(m':List UInt8)(hbody:C.body D.bs.length m (zx l)=(f',C',m')):
 Calls Tryz.prog 75 #[.pointer (some ⟨bc,0,none⟩),.slice a l.length cap] w fun e w'=>e=.returned (.int .i64 (f':Int))∧(∃(n:Int) (T':Nat→Prop),0≤n∧n≤3∧Cw w' bc bd S T' {D with reads:=D.reads+n} C'∧∀j,T' j→T j∨w.heap.size≤j)∧Kept (fun j=>j=bd∨T j) w w':=by
 have HH:Hid _:=h
 have HM:Hid _:=hm
 have HB:Hid (zv w P a l):=hb
 have HPT:Hid (∀j,P j→¬T j):=hPT
 have HPd:Hid (∀j,P j→j≠bd):=hPd
 have HBODY:Hid (C.body D.bs.length m (zx l)=(f',C',m')):=hbody
 have hbd:bd<w.heap.size:=h.disk.lt bd h.disk.bdS
 have HTL:Hid (∀j,T j→j<w.heap.size):=h.chg.lt
 have HSL:Hid (∀j,S j→j<w.heap.size):=h.disk.lt
 have ha:0<l.length→∃g o,a=some ⟨g,o,none⟩:=fun h0=>by
  rcases hb with h1|⟨b,o,h1,_⟩
  ·rw [h1] at h0;simp at h0
  ·exact⟨b,o,h1⟩
 have HA:Hid (0<l.length→∃g o,a=some ⟨g,o,none⟩):=ha
 clear h hm hb hPT hPd hbody ha
 refine yy Tryz.func75 rfl ?_
 simp only [Tryz.ntmps75,List.size_toArray,List.length_cons,List.length_nil,Nat.reduceAdd,Nat.reduceSub,Array.replicate_succ,Array.replicate_zero,List.push_toArray,List.append_toArray,List.nil_append,List.cons_append]
 have HR6:Hid (((room 6:Nat):Int)=124):=by show ((room 6:Nat):Int)=124;decide
 go_wp2_with (go_at_call 129;refine(jh _ 6 (by decide)).mono ?_;rintro e w0 ⟨rfl,hw0⟩;rw [hw0,HR6.out];clear hw0 w0)
 have HK0:Hid (Kept (fun _=>False) w (w.alloc (.cells #[.pointer (some ⟨bc,0,none⟩)] 142))):=Kept.alloc _ _ _
 have HBX:Hid ((w.alloc (.cells #[.pointer (some ⟨bc,0,none⟩)] 142)).heap[w.heap.size]? =some (.cells #[.pointer (some ⟨bc,0,none⟩)] 142 (0,0))):=heap_alloc_new w _
 have hs0:(w.alloc (.cells #[.pointer (some ⟨bc,0,none⟩)] 142)).heap.size=w.heap.size+1:=by simp
 generalize (w.alloc (.cells #[.pointer (some ⟨bc,0,none⟩)] 142))=W0 at*
 refine(Xu W0 a l.length cap).mono ?_
 rintro e w2 ⟨rfl,hx1,hx2,hk2,hs2⟩
 have HX1:Hid _:=hx1
 have HX2:Hid _:=hx2
 have HK2:Hid (Kept (fun _=>False) W0 w2):=hk2
 rw [hs0] at HX1 HX2 hs2
 clear hx1 hx2 hk2
 go_wp2_with fail
 refine(Zu w2 _ _ a l.length cap hl hc1 hc2 HA.out HX1.out HX2.out).mono ?_
 rintro e w3 ⟨⟨g,o,ra,rc,hga,rfl,hown,hfr⟩,hk3⟩
 have HGA:Hid (0<l.length→a=some ⟨g,o,none⟩):=hga
 have HOW:Hid (w3.ownsRow 0 35 1 (.slice ra (qx l.length).length rc) (qx l.length).length ((qx l.length).map (qA g o l.length))):=hown
 have HFR:Hid (∀k,(Value.slice ra (qx l.length).length rc).ownBlock=some k→w2.heap.size≤k):=hfr
 have HK3:Hid (Kept (fun _=>False) w2 w3):=hk3
 have hz3:=hk3.size
 clear hga hown hfr hk3
 go_wp2_with fail
 have HK4:Hid (Kept (fun _=>False) w3 (w3.alloc (.cells #[.int .i64 0] 3))):=Kept.alloc _ _ _
 have HBF:Hid ((w3.alloc (.cells #[.int .i64 0] 3)).heap[w3.heap.size]? =some (.cells #[.int .i64 0] 3 (0,0))):=heap_alloc_new w3 _
 have hs4:(w3.alloc (.cells #[.int .i64 0] 3)).heap.size=w3.heap.size+1:=by simp
 generalize (w3.alloc (.cells #[.int .i64 0] 3))=W4 at*
 have hon:(qx l.length).length=(zx l).length:=by rw [yB,jp]
 rw [hon] at HOW HFR ⊢
 have hcl:(zx l).length≤3:=by rw [yB];omega
 have HVB:Hid (∀k,(Value.slice ra (zx l).length rc).ownBlock=some k→w2.heap.size≤k∧k<w3.heap.size):=fun k hk=>⟨HFR.out k hk,Vb HOW.out k hk⟩
 clear hon HFR
 refine(bM W4 (.slice ra (zx l).length rc) rfl ra _ rc rfl).mono ?_
 rintro e w5 ⟨rfl,hb5,hk5,hs5⟩
 have HB5:Hid (w5.heap[W4.heap.size]? =some (.cells #[.slice ra (zx l).length rc] 178 (0,0))):=hb5
 have HK5:Hid (Kept (fun _=>False) W4 w5):=hk5
 rw [hs4] at HB5 hs5
 clear hb5 hk5
 have HK35:Hid (Kept (fun _=>False) w3 w5):=HK4.out.trans HK5.out iL
 have HKw5:Hid (Kept (fun _=>False) w w5):=((HK0.out.trans HK2.out iL).trans HK3.out iL).trans HK35.out iL
 have HK05:Hid (Kept (fun _=>False) W0 w5):=(HK2.out.trans HK3.out iL).trans HK35.out iL
 have HBX5:Hid (w5.heap[w.heap.size]? =_):=(HK05.out.block _ (by omega) id).trans HBX.out
 have HBF5:Hid (w5.heap[w3.heap.size]? =_):=(HK5.out.block _ (by omega) id).trans HBF.out
 have HOW5:Hid (w5.ownsRow 0 35 1 (.slice ra (zx l).length rc) (zx l).length ((qx l.length).map (qA g o l.length))):=HK35.out.owns HOW.out nF
 clear HBX HBF HOW HX1 HX2
 rw [hs4]
 go_wp2_with fail
 have HSEQ:Hid (∀W1,Kept (fun _=>False) w5 W1→W1.heap.size=w5.heap.size+2→kF Tryz.prog 169 #[.pointer (some ⟨w3.heap.size+1,0,none⟩)] (fun i:Nat=>#[.int .i64 (i:Int),qA g o l.length (i*124)]) (fun _=>False) (fun r _ A=>A.heap[w3.heap.size+1]? =some (.cells #[.slice ra (zx l).length rc] 178 (0,0))∧A.ownsRow 0 35 1 (.slice ra (zx l).length rc) (zx l).length ((qx l.length).map (qA g o l.length))∧r=0) (fun r pre i A=>r=0∧(pre++[i])<+:q8 (zx l).length) (fun r xs=>r=0∧xs=q8 (zx l).length) (fun _ _=>True) 0 W1):=fun W1 hk hsz=>
  XC W1 (w3.heap.size+1) ra (zx l).length rc ((qx l.length).map (qA g o l.length)) (by rw [List.length_map,yB,jp]) (by omega) (fun i=>qA g o l.length (i*124)) (fun i hi=>by simp [qx]) (fun i=>⟨_,_,_,rfl⟩) (fun h0=>by obtain⟨g0,h1,_⟩:=JZ HOW5.out h0;exact⟨g0,h1⟩) _ (fun r pre A h=>⟨h.1,h.2.1⟩)
   (fun r pre A B h hk=>⟨(hk.block _ (lT h.1) id).trans h.1,hk.owns h.2.1 nF,h.2.2⟩)
 have hSz5:=HKw5.out.size
 have HVB5:Hid (∀k,(Value.slice ra (zx l).length rc).ownBlock=some k→w2.heap.size≤k∧k<w3.heap.size):=HVB.out
 refine jS (α:=Nat) (gf:= 169) (lb:=#[.pointer (some ⟨w3.heap.size+1,0,none⟩)]) rfl (enters_of Tryz.func169 (by kernel_rfl) rfl) HSEQ.out
  (fun k hk=>hk.elim) (fun _=>rfl)
  (Vx w5 bc bd S T D C m (zx l) w.heap.size w3.heap.size (w3.heap.size+1) (.slice ra (zx l).length rc) ((qx l.length).map (qA g o l.length))) (fun c r pre A=>False)
  (fun r pre Q A h=>⟨⟨h.back.1,h.back.2,h.r⟩,fun k hk=>by
   obtain⟨f,C1,m1,n,T1,k1,k2,k3,k4,k5,k6,k7⟩:=h.st
   have h1:=(k7 k).1 hk
   have h2:=k4.chg.lt k h1.1
   omega⟩)
  (fun r r' pre Q A B h hr hk hi=>h.by hk (fun k hk=>hk.elim) hi.2.2 (fun k hk=>by have:=HSL.out k hk;omega) (fun k hk=>by have:=HTL.out k hk;omega) (by omega) (by omega) (by omega) (fun k hk=>by have:=HVB5.out k hk;omega))
  (fun r pre Q A B h hk=>h.by hk (fun k hk=>by omega) h.r (fun k hk=>by have:=HSL.out k hk;omega) (fun k hk=>by have:=HTL.out k hk;omega) (by omega) (by omega) (by omega) (fun k hk=>by have:=HVB5.out k hk;omega))
  (fun c r pre A B h hk=>h)
  ⟨⟨0,C,m,0,T,by rw [List.length_nil,Nat.sub_zero,List.drop_length];rfl,Int.le_refl _,by simp,by rw [Int.add_zero];exact HH.out.kept0 HKw5.out,fun j hj=>.inl hj,HBF5.out,fun k=>⟨fun h=>h.elim,fun h=>by have:=HTL.out k h.1;omega⟩⟩,Nat.zero_le _,HBX5.out,⟨HB5.out,HOW5.out⟩,Kept.refl _ _,rfl⟩
  (fun x a' A=>a'={tmps:=#[.pointer (some ⟨bc,0,none⟩),.slice a l.length cap,.pointer (some ⟨w.heap.size,0,none⟩),undef,.int .i64 0,.slice ra (zx l).length rc,.pointer (some ⟨w3.heap.size,0,none⟩),undef,qA g o l.length (x*124),undef,.slice a l.length cap,.int .i64 124,.func (.func 168) #[] #[.pointer (some ⟨w.heap.size+1,0,none⟩),.pointer (some ⟨w.heap.size+1+1,0,none⟩)],.slice ra (zx l).length rc,.slice ra (zx l).length rc,.func (.func 169) #[] #[.pointer (some ⟨w3.heap.size+1,0,none⟩)],.int .i64 (x:Int),qA g o l.length (x*124),undef,undef,undef,undef,undef,undef,undef,undef,undef,undef,undef,undef,undef,undef,undef],defers:=[] })
  (fun x a A B h hk=>h) (fun r pre x A B h hk=>h) ?assign ?body ?done ?stop
 case assign=>
  intro ll r pre x Q A K hi hh hlt hK
  gi_wp2
  exact hK _ _ (Kept.refl _ _) hi hh rfl
 case body=>
  rintro ll r pre x Q a' A hi hh rfl hlt
  obtain⟨f,C1,m1,n,T1,k1,k2,k3,k4,k5,k6,k7⟩:=hi.st
  obtain⟨zz,hzz⟩:=hh.2
  have hpl:pre.length<(zx l).length:=by
   have:=congrArg List.length hzz
   rw [kh] at this
   simp at this
   omega
  have hx:x=(zx l).length-1-pre.length:=by
   have e1:(q8 (zx l).length)[pre.length]? =some x:=by rw [←hzz];simp
   simp only [q8] at e1
   rw [List.getElem?_reverse (by simpa using hpl),List.length_range,List.getElem?_range (by omega)] at e1
   exact(Option.some.inj e1).symm
  have hxl:x<(zx l).length:=by omega
  have hdrop:(zx l).drop ((zx l).length-(pre++[x]).length)=yS l (x*124)::(zx l).drop ((zx l).length-pre.length):=by
   rw [List.length_append,List.length_singleton,show (zx l).length-(pre.length+1)=x from by omega,show (zx l).length-pre.length=x+1 from by omega,List.drop_eq_getElem_cons hxl,um]
  have HDROP:Hid ((zx l).drop ((zx l).length-(pre++[x]).length)=yS l (x*124)::(zx l).drop ((zx l).length-pre.length)):=hdrop
  have hxn:x*124<l.length:=by rw [yB] at hxl;omega
  have hpp:=fo (yS l (x*124)) (by rw [←um l x hxl];exact List.getElem_mem _)
  have hbm:=fp HM.out hN _ _ _ _ k1
  have HM1:Hid (qn (C1.look D 2) m1):=hbm.1
  have hf6:f<65536:=hbm.2.2
  have hcw:C1.ws.length<700:=by have:=hbm.2.1;have:((zx l).drop ((zx l).length-pre.length)).length≤3:=(by rw [List.length_drop];omega);omega
  have HBA:Hid (zv A P (some ⟨g,o+x*124,none⟩) (yS l (x*124))):=by
   have h1:=(HB.out.kept HKw5.out nF)
   show zv A P _ _
   have h0:a=some ⟨g,o,none⟩:=HGA.out (by omega)
   rw [h0] at h1
   rcases h1 with h1|⟨b,oo,e0,hPb,hbl,hcell⟩
   ·rw [h1] at hxn;simp at hxn
   ·cases e0
    refine .inr ⟨g,o+x*124,rfl,hPb,Nat.lt_of_lt_of_le hbl hi.kept.size,fun j hj=>?_⟩
    have hgw:g<w.heap.size:=by
     rcases HB.out with h2|⟨b2,o2,e2,_,h3,_⟩
     ·rw [h2] at hxn;simp at hxn
     ·rw [h0] at e2;cases e2;exact h3
    have hj2:x*124+j<l.length:=by rw [vf (by omega)] at hj;omega
    have:=(hi.kept.cell (a:=⟨g,o+(x*124+j),none⟩) hbl (fun hc=>by
     rcases hc with h|h|h|h
     ·exact HPd.out g hPb h
     ·exact HPT.out g hPb h
     ·have hh:g=w3.heap.size:=h;omega
     ·have hh:w5.heap.size≤g:=h;omega)).trans (hcell _ hj2)
    rw [Nat.add_assoc,this]
    simp [yS]
  have hpv:qA g o l.length (x*124)=.slice (some ⟨g,o+x*124,none⟩) (yS l (x*124)).length (yS l (x*124)).length:=by rw [vf (by omega)];rfl
  rw [hpv]
  have HI:Hid (Vx w5 bc bd S T D C m (zx l) w.heap.size w3.heap.size (w3.heap.size+1) (.slice ra (zx l).length rc) ((qx l.length).map (qA g o l.length)) r pre Q A):=hi
  have c6:A.cell? ⟨w3.heap.size,0,none⟩=some (.int .i64 (f:Int)):=cR k6 rfl
  have c2:A.cell? ⟨w.heap.size,0,none⟩=some (.pointer (some ⟨bc,0,none⟩)):=cR hi.box rfl
  have HC1:Hid (Cw A bc bd S T1 {D with reads:=D.reads+n} C1):=k4
  have HT1:Hid (∀j,T1 j→T j∨w5.heap.size+2≤j):=k5
  have HQ:Hid (∀k,Q k↔T1 k∧w5.heap.size+2≤k):=k7
  have HB6:Hid (A.heap[w3.heap.size]? =some (.cells #[.int .i64 (f:Int)] 3 (0,0))):=k6
  have HK1:Hid (C.body D.bs.length m ((zx l).drop ((zx l).length-pre.length))=(f,C1,m1)):=k1
  have hp1:=hpp.1
  have hp2:=hpp.2
  generalize yS l (x*124)=p at*
  generalize o+x*124=po at*
  have hszA:=hi.kept.size
  have hn3:n≤3:=by omega
  have HHN:Hid (n≤pre.length):=k3
  clear hi hh hzz hx hxl hdrop hbm k1 k3 k4 k5 k6 k7 hpv hpp
  obtain⟨Zb,hZb,hz⟩:∃Zb:List Value,Zb=zT∧∀w,(zeroValue 154).run Tryz.prog w=.ok (.agg Zb.toArray) w:=⟨zT,rfl,zV Tryz.infoPage⟩
  have HZb:Hid (zy Zb):=by rw [hZb];exact zF
  have HIP:Hid ((Tryz.prog.info? 154).map (·.size)=some 128):=zS Tryz.infoPage
  have HN1:Hid (zy (zl (Pg.new 6))):=qP (Pg.new_ok 6 (by omega))
  clear hZb
  gi_wp2_with fail
  refine⟨trivial,rfl,?_⟩
  refine((yz ll).calls (xQ _ 6 (by decide))).mono ?_
  rintro e u1 ⟨rfl,hk1⟩
  have HU1:Hid (Kept (fun _=>False) A u1):=hk1
  have hu1:=hk1.size
  have e6:u1.cell? ⟨w3.heap.size,0,none⟩=some (.int .i64 (f:Int)):=(hk1.cell (a:=⟨w3.heap.size,0,none⟩) (by show w3.heap.size<A.heap.size;omega) id).trans c6
  have l6:w3.heap.size<u1.heap.size:=by omega
  clear hk1
  gi_wp2_with ((show wpListIn _ _ _ _ _ ({dst:=none,op:=.store _ (.tmp 9) (.tmp 18),type:=_,pos:=_,after:=_,guard:=_}::_) _ _;refine(yz ll).store_new rfl 154 (.tmp 9) (.tmp 18) rfl _ _ (zl (Pg.new 6)) (by simp) rfl rfl (by rw [HN1.out.1];exact HIP.out) (by rw [List.size_toArray,HZb.out.1,HN1.out.1]) HN1.out.2 ?_))
  refine⟨trivial,rfl,?_⟩
  have HP0:Hid (qu (u1.alloc (.cells (zl (Pg.new 6)).toArray 154)) u1.heap.size (Pg.new 6)):=⟨⟨heap_alloc_new u1 _⟩,Pg.new_ok 6 (by omega)⟩
  have HU2:Hid (Kept (fun _=>False) A (u1.alloc (.cells (zl (Pg.new 6)).toArray 154))):=HU1.out.trans (Kept.alloc _ _ _) iL
  have hsU:(u1.alloc (.cells (zl (Pg.new 6)).toArray 154)).heap.size=u1.heap.size+1:=by simp
  generalize (u1.alloc (.cells (zl (Pg.new 6)).toArray 154))=U at*
  clear e6 l6
  refine((yz ll).calls (uM U _ _ HP0.out f hf6)).mono ?_
  rintro e u2 ⟨rfl,hp2',hk2⟩
  have HP2:Hid (qu u2 u1.heap.size ((Pg.new 6).setLink f)):=hp2'
  have HKU2:Hid (Kept (fun i=>i=u1.heap.size) U u2):=hk2
  have hsz2:=hk2.size
  clear hp2' hk2
  gi_wp2_with fail
  refine⟨trivial,rfl,?_⟩
  have hw6:zk ((Pg.new 6).setLink f).kind=1:=rfl
  have hi6:((Pg.new 6).setLink f).items.length=0:=rfl
  refine((yz ll).calls (jP u2 u1.heap.size ((Pg.new 6).setLink f) HP2.out p.length (by rw [hw6,hi6];omega) (by rw [hi6];omega) (by rw [hw6];omega))).mono ?_
  rintro e u3 ⟨rfl,hp3',hk3⟩
  have HGV:Hid (jO u1.heap.size ((Pg.new 6).setLink f).kind ((Pg.new 6).setLink f).items.length p.length=.slice (some ⟨u1.heap.size,4,none⟩) p.length 124):=by show jO _ _ _ _=_;simp [jO,hw6,hi6]
  rw [HGV.out]
  have HP3:Hid (qu u3 u1.heap.size (((Pg.new 6).setLink f).grown p.length)):=hp3'
  have HKU3:Hid (Kept (fun i=>i=u1.heap.size) u2 u3):=hk3
  have hsz3:=hk3.size
  clear hp3' hk3 hw6 hi6
  have HKA3:Hid (Kept (fun i=>i=u1.heap.size) A u3):=((HU2.out.mono fE).trans HKU2.out iL).trans HKU3.out iL
  have HBU:Hid (zv u3 P (some ⟨g,po,none⟩) p):=by
   show zv u3 P _ _
   rcases HBA.out with h1|⟨b,oo,e0,hPb,hbl,hcell⟩
   ·rw [h1] at hp1;simp at hp1
   ·refine .inr ⟨b,oo,e0,hPb,Nat.lt_of_lt_of_le hbl HKA3.out.size,fun j hj=>(HKA3.out.cell (a:=⟨b,oo+j,none⟩) hbl (fun hc=>?_)).trans (hcell j hj)⟩
    have hb2:b=u1.heap.size:=hc
    omega
  have hlen3:(((Pg.new 6).setLink f).grown p.length).bytes.length=128:=HP3.out.ok.len
  obtain⟨u4,hrun4,hb4,hk4⟩:=KE u3 u1.heap.size 154 _ HP3.out.bs 4 124 p (by rw [hlen3];omega) P g po p.length HBU.out
  have HKU4:Hid (Kept (fun i=>i=u1.heap.size) A u4):=HKA3.out.trans hk4 iL
  have hov:qw (((Pg.new 6).setLink f).grown p.length).bytes 4 p=(z9 f p).bytes:=by
   have h1:=(HP2.out.ok).more_bytes (p.map fun b=>[b]) (fun v hv=>by obtain⟨b,_,rfl⟩:=List.mem_map.1 hv;rfl) (by show (0+_)*1≤124;rw [List.length_map];omega)
   rw [ue,List.length_map] at h1
   exact h1
  rw [hov] at hb4
  have HP4:Hid (qu u4 u1.heap.size (z9 f p)):=⟨hb4,kg hf6 hp2⟩
  have hsz4:=hk4.size
  have e2:u4.cell? ⟨w.heap.size,0,none⟩=some (.pointer (some ⟨bc,0,none⟩)):=(HKU4.out.cell (a:=⟨w.heap.size,0,none⟩) (by show w.heap.size<A.heap.size;omega) (by show ¬w.heap.size=u1.heap.size;omega)).trans c2
  clear hb4 hk4 hlen3 hov c6 c2
  gi_wp2_with fail
  refine⟨trivial,rfl,?_⟩
  have HCU:Hid (Cw u4 bc bd S T1 {D with reads:=D.reads+n} C1):=HC1.out.kept HKU4.out (fun j hj hc=>by have h1:=HSL.out j hj;have h2:j=u1.heap.size:=hc;omega) (fun j hj hc=>by have h1:=HC1.out.chg.lt j hj;have h2:j=u1.heap.size:=hc;omega)
  obtain⟨ta,C2,m2,htk⟩:∃ta C2 m2,C1.take D.bs.length m1=(ta,C2,m2):=⟨_,_,_,rfl⟩
  have HTK:Hid (C1.take D.bs.length m1=(ta,C2,m2)):=htk
  have hcw2:C2.ws.length<900:=by have:=vD C1 D.bs.length m1;rw [htk] at this;simp only at this;omega
  refine((yz ll).calls (fd u4 bc bd S T1 {D with reads:=D.reads+n} C1 HCU.out m1 HM1.out (by show 0≤D.reads+n;omega) (by show D.reads+n≤_;omega) (by omega))).mono ?_
  rintro e u5 ⟨rfl,⟨n5,T5,hn50,hn51,hc5,hT5⟩,hk5'⟩
  rw [htk] at hc5 ⊢
  dsimp only at hc5 ⊢
  clear htk
  have HC5:Hid (Cw u5 bc bd S T5 {D with reads:=D.reads+n+n5} C2):=hc5
  have HT5:Hid (∀j,T5 j→T1 j∨u4.heap.size≤j):=hT5
  have HKU5:Hid (Kept (fun k=>k=bd∨T1 k) u4 u5):=hk5'
  have hsz5:=hk5'.size
  have nT1:∀j,w.heap.size≤j→j<w5.heap.size+2→¬(j=bd∨T1 j):=fun j h1 h2 hc=>by
   rcases hc with h|h
   ·omega
   ·rcases HT1.out j h with h|h
    ·have:=HTL.out j h;omega
    ·omega
  have HNT1:Hid (∀j,w.heap.size≤j→j<w5.heap.size+2→¬(j=bd∨T1 j)):=nT1
  have HX6:Hid (u5.heap[w3.heap.size]? =some (.cells #[.int .i64 (f:Int)] 3 (0,0))):=(hk5'.block _ (by omega) (nT1 _ (by omega) (by omega))).trans ((HKU4.out.block _ (by omega) (by show ¬w3.heap.size=u1.heap.size;omega)).trans HB6.out)
  have HX2:Hid (u5.heap[w.heap.size]? =some (.cells #[.pointer (some ⟨bc,0,none⟩)] 142 (0,0))):=(hk5'.block _ (by omega) (nT1 _ (by omega) (by omega))).trans ((HKU4.out.block _ (by omega) (by show ¬w.heap.size=u1.heap.size;omega)).trans HI.out.box)
  have nTu:¬(u1.heap.size=bd∨T1 u1.heap.size):=fun hc=>by
   rcases hc with h|h
   ·omega
   ·have:=HC1.out.chg.lt _ h;omega
  have HP5:Hid (qu u5 u1.heap.size (z9 f p)):=HP4.out.kept hk5' nTu
  have g6:u5.cell? ⟨w3.heap.size,0,none⟩=some (.int .i64 (f:Int)):=cR HX6.out rfl
  have f6:u5.frozen? ⟨w3.heap.size,0,none⟩=false:=frozen_of_row u5 w3.heap.size 0 _ _ HX6.out
  clear hc5 hT5 hk5' nT1 nTu e2
  have HS6:Hid ((u5.setCell ⟨w3.heap.size,0,none⟩ (.int .i64 (ta:Int))).heap[w3.heap.size]? =some (.cells #[.int .i64 (ta:Int)] 3 (0,0))):=heap_setCell_same u5 w3.heap.size 0 _ _ (.int .i64 (ta:Int)) HX6.out
  have HKS:Hid (Kept (fun j=>j=w3.heap.size) u5 (u5.setCell ⟨w3.heap.size,0,none⟩ (.int .i64 (ta:Int)))):=Kept.setCell (S:=fun j=>j=w3.heap.size) u5 ⟨w3.heap.size,0,none⟩ (.int .i64 (ta:Int)) rfl
  have hrP:(vy (.pointer (some ⟨u1.heap.size,0,none⟩))).run Tryz.prog (u5.setCell ⟨w3.heap.size,0,none⟩ (.int .i64 (ta:Int)))=.ok (.agg (zl (z9 f p)).toArray) (u5.setCell ⟨w3.heap.size,0,none⟩ (.int .i64 (ta:Int))):=yV _ _ _ _ (zQ (HP5.out.kept HKS.out (by show ¬u1.heap.size=w3.heap.size;omega)).bs.at_) (qP (kg hf6 hp2)).1
  have z2:(u5.setCell ⟨w3.heap.size,0,none⟩ (.int .i64 (ta:Int))).cell? ⟨w.heap.size,0,none⟩=some (.pointer (some ⟨bc,0,none⟩)):=cR (((HKS.out.block _ (by omega) (by show ¬w.heap.size=w3.heap.size;omega)).trans HX2.out)) rfl
  have z6:(u5.setCell ⟨w3.heap.size,0,none⟩ (.int .i64 (ta:Int))).cell? ⟨w3.heap.size,0,none⟩=some (.int .i64 (ta:Int)):=cR HS6.out rfl
  gi_wp2_with fail
  refine⟨trivial,rfl,?_⟩
  have hs6:(u5.setCell ⟨w3.heap.size,0,none⟩ (.int .i64 (ta:Int))).heap.size=u5.heap.size:=by simp
  generalize (u5.setCell ⟨w3.heap.size,0,none⟩ (.int .i64 (ta:Int)))=u6 at*
  have HNT5:Hid (∀j,w.heap.size≤j→j<w5.heap.size+2→¬T5 j):=fun j h1 h2 hc=>by
   rcases HT5.out j hc with h|h
   ·exact HNT1.out j h1 h2 (.inr h)
   ·omega
  have HC6:Hid (Cw u6 bc bd S T5 {D with reads:=D.reads+n+n5} C2):=HC5.out.kept HKS.out (fun j hj hc=>by have h1:=HSL.out j hj;have h2:j=w3.heap.size:=hc;omega) (fun j hj hc=>by have h2:j=w3.heap.size:=hc;exact HNT5.out j (by omega) (by omega) hj)
  refine((yz ll).calls (xF u6 bc bd S T5 _ C2 HC6.out ta _ (qP (kg hf6 hp2)) (by omega))).mono ?_
  rintro e u7 ⟨rfl,⟨T7,hc7,hT7⟩,hk7⟩
  have HC7:Hid (Cw u7 bc bd S T7 {D with reads:=D.reads+n+n5} (C2.put ta (zl (z9 f p)))):=hc7
  have HT7:Hid (∀j,T7 j→T5 j∨u6.heap.size≤j):=hT7
  have HKU7:Hid (Kept T5 u6 u7):=hk7
  have hsz7:=hk7.size
  clear hc7 hT7 hk7 hrP z2 z6
  gi_wp2
  have kA:Kept (fun k=>k=bd∨T1 k∨k=w3.heap.size) A u7:=by
   have e1:Kept (fun k=>k=bd∨T1 k∨k=w3.heap.size) A u4:=Kept.trans (S':=fun i=>i=u1.heap.size) (Kept.refl _ A) HKU4.out (fun j hj=>.inr (by omega))
   have e2:=e1.trans HKU5.out (fun j hj=>.inl (by rcases hj with h|h;exact .inl h;exact .inr (.inl h)))
   have e3:=e2.trans HKS.out (fun j hj=>.inl (.inr (.inr hj)))
   exact e3.trans HKU7.out (fun j hj=>by
    rcases HT5.out j hj with h|h
    ·exact .inl (.inr (.inl h))
    ·exact .inr (by omega))
  have nA:∀j,w.heap.size≤j→j<w5.heap.size+2→j≠w3.heap.size→¬(j=bd∨T1 j∨j=w3.heap.size):=fun j h1 h2 h3 hc=>by
   rcases hc with h|h|h
   ·exact HNT1.out j h1 h2 (.inl h)
   ·exact HNT1.out j h1 h2 (.inr h)
   ·exact h3 h
  have T7w:∀j,T7 j→T1 j∨A.heap.size≤j:=fun j hj=>by
   rcases HT7.out j hj with h|h
   ·rcases HT5.out j h with h|h
    ·exact .inl h
    ·exact .inr (by omega)
   ·exact .inr (by omega)
  have hbl:=un (l:=p) HK1.out HTK.out
  refine⟨kA.mono (fun k hk=>?_),fun k=>T7 k∧w5.heap.size+2≤k,⟨⟨ta,C2.put ta (zl (z9 f p)),m2,n+n5,T7,?_,by omega,?_,?_,fun j hj=>?_,?_,fun k=>Iff.rfl⟩,?_,(kA.block _ (lT HI.out.box) (nA _ (by omega) (by omega) (by omega))).trans HI.out.box,⟨(kA.block _ (lT HI.out.back.1) (nA _ (by omega) (by omega) (by omega))).trans HI.out.back.1,kA.owns HI.out.back.2 (fun j hj=>nA j (by have:=HVB5.out j hj;omega) (by have:=HVB5.out j hj;omega) (by have:=HVB5.out j hj;omega))⟩,HI.out.kept.trans kA (fun j hj=>?_),HI.out.r⟩,fun k hk=>?_⟩
  ·rcases hk with h|h|h
   ·exact .inl (by omega)
   ·rcases HT1.out k h with h2|h2
    ·exact .inl (by have:=HTL.out k h2;omega)
    ·exact .inr ((HQ.out k).2 ⟨h,h2⟩)
   ·exact .inl (by omega)
  ·rw [HDROP.out];exact hbl
  ·have:=HHN.out;rw [List.length_append,List.length_singleton];omega
  ·have:=HC7.out;rw [Int.add_assoc] at this;exact this
  ·rcases T7w j hj with h|h
   ·exact HT1.out j h
   ·exact .inr (by omega)
  ·exact(HKU7.out.block _ (by omega) (HNT5.out _ (by omega) (by omega))).trans HS6.out
  ·rw [List.length_append,List.length_singleton];omega
  ·rcases hj with h|h|h
   ·exact .inl (.inl h)
   ·rcases HT1.out j h with h2|h2
    ·exact .inl (.inr (.inl h2))
    ·exact .inl (.inr (.inr (.inr (by omega))))
   ·exact .inl (.inr (.inr (.inl h)))
  ·rcases T7w k hk.1 with h|h
   ·exact .inl ((HQ.out k).2 ⟨h,hk.2⟩)
   ·exact .inr h
 case done=>
  rintro DD r xs Q A hS hi rfl hK
  obtain⟨f,C1,m1,n,T1,k1,k2,k3,k4,k5,k6,k7⟩:=hi.st
  have hxl:xs.length=(zx l).length:=by rw [hS.2,kh]
  rw [hxl,Nat.sub_self,List.drop_zero,HBODY.out] at k1
  simp only [Prod.mk.injEq] at k1
  obtain⟨rfl,rfl,rfl⟩:=k1
  have hn3:n≤3:=by omega
  have HC:Hid _:=k4
  have HT1:Hid (∀j,T1 j→T j∨w5.heap.size+2≤j):=k5
  have HKA:Hid _:=hi.kept
  have HK:Hid (A.heap[w5.heap.size]? =some (.deferred (some []))):=hK
  have cx:A.cell? ⟨w3.heap.size,0,none⟩=some (.int .i64 (f':Int)):=cR k6 rfl
  clear hi hS hK k3 k4 k5 k6 k7 hxl
  dsimp only
  go_wp2
  have kp:Kept (fun k=>k=w3.heap.size+1+1) A (A.putObj (w3.heap.size+1+1) (.deferred none)):=Kept.putObj _ _ _ rfl
  refine jo rfl (by rw [←hs5];exact HK.out) (results_tmp rfl _ _ _) ⟨rfl,⟨n,k2,hn3,T1,HC.out.kept kp (fun j hj e0=>by have:=HSL.out j hj;omega) (fun j hj e0=>by
   rcases HT1.out j hj with h|h
   ·have:=HTL.out j h;omega
   ·omega),fun j hj=>(HT1.out j hj).imp id (fun h=>by omega)⟩,?_⟩
  exact((HKw5.out.mono (S':=fun j=>j=bd∨T j) fE).trans HKA.out (fun j hj=>by
   rcases hj with h|h|h|h
   ·exact .inl (.inl h)
   ·exact .inl (.inr h)
   ·exact .inr (by omega)
   ·exact .inr (by omega))).trans kp (fun j hj=>.inr (by omega))
 case stop=>
  rintro DD c r pre A hS hi rfl hK
  exact hi.elim
end
end prog
namespace prog
open keys (ze zd zr zn)
section
attribute [local go_sem ↓] xD
theorem kJ(w:World)(bc bd:Nat)(S T:Nat→Prop)(D:Dk)(C:Ck)(h:Cw w bc bd S T D C)(tree n:Nat)(ht:tree<65536)(hn:n<9223372036854775808)(hfew:C.ws.length<1000):
 Calls Tryz.prog 77 #[.agg #[.int .i64 (tree:Int),.int .i64 (n:Int)],.pointer (some ⟨bc,0,none⟩)] w fun r w'=>r=.returned (.tuple #[])∧(∃T',Cw w' bc bd S T' D (C.put 1 (zl (zp tree n)))∧∀j,T' j→T j∨w.heap.size≤j)∧Kept T w w':=by
 obtain⟨Zb,hZb,hz⟩:∃Zb:List Value,Zb=zT∧∀w,(zeroValue 154).run Tryz.prog w=.ok (.agg Zb.toArray) w:=⟨zT,rfl,zV Tryz.infoPage⟩
 have HZb:Hid (zy Zb):=by rw [hZb];exact zF
 clear hZb
 have HI:Hid ((Tryz.prog.info? 154).map (·.size)=some 128):=zS Tryz.infoPage
 have HH:Hid _:=h
 have HN1:Hid (zy (zl (Pg.new 2))):=qP (Pg.new_ok 2 (by omega))
 have HK0:Hid (Kept (fun _=>False) w (w.alloc (.cells #[.int .i64 (tree:Int),.int .i64 (n:Int)] 145))):=Kept.alloc _ _ _
 have HTL:Hid (∀j,T j→j<w.heap.size):=h.chg.lt
 have HSL:Hid (∀j,S j→j<w.heap.size):=h.disk.lt
 clear h
 go_enter Tryz.func77,Tryz.ntmps77
 go_wp2_with (first
  |(go_at_call 131;refine(xQ _ 2 (by omega)).mono ?_;rintro r w1 ⟨rfl,hk1⟩;have HK1:Hid _:=hk1;have hbx1:w1.heap[w.heap.size]? =_:=(hk1.block w.heap.size (by simp) (fun hf=>hf)).trans (heap_alloc_new w _);have HBX1:Hid _:=hbx1;have hx0:w1.cell? ⟨w.heap.size,0,none⟩=some (.int .i64 (tree:Int)):=(cR hbx1 rfl);have hl1:w.heap.size<w1.heap.size:=(lT hbx1);clear hk1 hbx1)
  |(show wpList _ _ _ ({dst:=none,op:=.store _ (.tmp 4) (.tmp 5),type:=_,pos:=_,after:=_,guard:=_}::_) _ _;refine zg rfl 154 (.tmp 4) (.tmp 5) rfl _ _ (zl (Pg.new 2)) (by simp) rfl rfl (by rw [HN1.out.1];exact HI.out) (by rw [List.size_toArray,HZb.out.1,HN1.out.1]) HN1.out.2 ?_))
 have HP0:Hid (qu (w1.alloc (.cells (zl (Pg.new 2)).toArray 154)) w1.heap.size (Pg.new 2)):=⟨⟨heap_alloc_new w1 _⟩,Pg.new_ok 2 (by omega)⟩
 have HKW:Hid (Kept (fun _=>False) w (w1.alloc (.cells (zl (Pg.new 2)).toArray 154))):=(HK0.out.trans HK1.out iL).trans (Kept.alloc _ _ _) iL
 have HBXW:Hid ((w1.alloc (.cells (zl (Pg.new 2)).toArray 154)).heap[w.heap.size]? =some (.cells #[.int .i64 (tree:Int),.int .i64 (n:Int)] 145 (0,0))):=((Kept.alloc (fun _=>False) w1 _).block w.heap.size hl1 (fun hf=>hf)).trans HBX1.out
 have hsW:(w1.alloc (.cells (zl (Pg.new 2)).toArray 154)).heap.size=w1.heap.size+1:=by simp
 generalize (w1.alloc (.cells (zl (Pg.new 2)).toArray 154))=W at*
 refine(uM W _ _ HP0.out tree ht).mono ?_
 rintro r w2 ⟨rfl,hp2,hk2⟩
 have HP2:Hid (qu w2 w1.heap.size ((Pg.new 2).setLink tree)):=hp2
 have HK2:Hid (Kept (fun i=>i=w1.heap.size) W w2):=hk2
 have hsz2:=hk2.size
 have HB2:Hid (w2.heap[w.heap.size]? =_):=(hk2.block _ (by omega) (by omega)).trans HBXW.out
 clear hp2 hk2
 have x1:w2.cell? ⟨w.heap.size,1,none⟩=some (.int .i64 (n:Int)):=cR HB2.out rfl
 have hl2:w.heap.size<w2.heap.size:=by omega
 have hne:¬w.heap.size=w1.heap.size:=by omega
 have hk':((Pg.new 2).setLink tree).kind=2:=rfl
 have hi':((Pg.new 2).setLink tree).items.length=0:=rfl
 go_wp2_with fail
 have HPA:Hid (qu w2.drew w1.heap.size ((Pg.new 2).setLink tree)):=HP2.out.kept (Kept.drew (fun _=>False) w2) id
 have HGV:Hid (jO w1.heap.size ((Pg.new 2).setLink tree).kind ((Pg.new 2).setLink tree).items.length 1=.slice (some ⟨w1.heap.size,4,none⟩) 8 124):=rfl
 have HPO:Hid ((Pg.new 2).setLink tree).Ok:=HP2.out.ok
 have HOV:Hid (qw (((Pg.new 2).setLink tree).grown 1).bytes 4 (bytesOf 8 n)=(zp tree n).bytes):=HPO.out.push_over (bytesOf 8 n) (by rw [zP];rfl) (by show (0+1)*8≤124;omega)
 have HL:Hid ((((Pg.new 2).setLink tree).grown 1).bytes.length=128):=(HPO.out.grown 1 (by show (0+1)*8≤124;omega) (by show 0+1≤124;omega)).len
 clear hk' hi'
 go_region_held3 (fun w'=>w'.cell? ⟨w.heap.size,1,none⟩=some (.int .i64 (n:Int))) (go_keep) (first
  |(go_at_call 133;refine(jP _ _ _ HPA.out 1 (by show (0+1)*8≤124;omega) (by show 0+1≤124;omega) (by show 1≤1*8;omega)).mono ?_;rintro r w3 ⟨rfl,hp3,hk3⟩;rw [HGV.out];have HP3:Hid (qu w3 w1.heap.size (((Pg.new 2).setLink tree).grown 1)):=hp3;have HK3:Hid (Kept (fun i=>i=w1.heap.size) w2.drew w3):=hk3;have x3:w3.cell? ⟨w.heap.size,1,none⟩=some (.int .i64 (n:Int)):=(hk3.cell (a:=⟨w.heap.size,1,none⟩) hl2 hne).trans x1;clear hp3 hk3)
  |(go_at_call 138;refine(qE _ _ _ _ HP3.out.bs 4 8 124 (by rw [HL.out];omega) (by omega) n hn).mono ?_;rintro r w4 ⟨rfl,hb4,hk4⟩;rw [HOV.out] at hb4;have HP4:Hid (qu w4 w1.heap.size (zp tree n)):=⟨hb4,uo ht⟩;have HK4:Hid (Kept (fun i=>i=w1.heap.size) w3 w4):=hk4;have x4:w4.cell? ⟨w.heap.size,1,none⟩=some (.int .i64 (n:Int)):=(hk4.cell (a:=⟨w.heap.size,1,none⟩) (Nat.lt_of_lt_of_le hl2 HK3.out.size) hne).trans x3;clear hb4 hk4))
 have HOV4:Hid (zy (zl (zp tree n))):=qP (uo ht)
 have hrP:(vy (.pointer (some ⟨w1.heap.size,0,none⟩))).run Tryz.prog w4=.ok (.agg (zl (zp tree n)).toArray) w4:=yV _ _ _ _ (zQ HP4.out.bs.at_) HOV4.out.1
 have HKW4:Hid (Kept (fun i=>w.heap.size≤i) w w4):=((((HKW.out.mono fE).trans HK2.out (fun j hj=>.inl (by omega))).trans (Kept.drew (fun _=>False) w2) fE).trans HK3.out (fun j hj=>.inl (by omega))).trans HK4.out (fun j hj=>.inl (by omega))
 have HCW:Hid (Cw w4 bc bd S T D C):=HH.out.kept HKW4.out (fun j hj hjj=>by have:=HSL.out j hj;omega) (fun j hj hjj=>by have:=HTL.out j hj;omega)
 go_wp2_with (go_at_call 135;refine(xF _ bc bd S T D C HCW.out 1 _ HOV4.out hfew).mono ?_;rintro r w5 ⟨rfl,⟨T5,hc5,hT5⟩,hk5⟩;have HC5:Hid _:=hc5;have HT5:Hid _:=hT5;have HK5:Hid _:=hk5;clear hc5 hT5 hk5)
 go_end0
 have hz4:=HKW4.out.size
 refine⟨rfl,⟨T5,HC5.out,fun j hj=>(HT5.out j hj).imp id (fun h=>by omega)⟩,?_⟩
 have h1:Kept T w w4:=Kept.trans (S:=T) (S':=fun i=>w.heap.size≤i) (Kept.refl _ w) HKW4.out (fun j hj=>.inr hj)
 exact h1.trans HK5.out iL
end
structure jU (w:World) (T:Nat→Prop) (a:Option Addr) (ws:List (Nat×List Value)):Prop where
 ok:∀p∈ws,zy p.2∧p.1<65536
 at_:ws=[]∨∃g,a=some ⟨g,0,none⟩∧T g∧g<w.heap.size∧∀k (hk:k<ws.length),w.rangeAt g (k*129) (.int .i64 (ws[k].1:Int)::ws[k].2)
 few:ws.length≤1000
theorem jU.kept{w w':World}{T X:Nat→Prop}{a:Option Addr}{ws:List (Nat×List Value)}(h:jU w T a ws)(k:Kept X w w')(hn:∀i,T i→¬X i):jU w' T a ws:=
 ⟨h.ok,h.at_.imp id (fun ⟨g,h1,h2,h3,h4⟩=>⟨g,h1,h2,Nat.lt_of_lt_of_le h3 k.size,fun j hj t v hv=>(k.cell (a:=⟨g,j*129+t,none⟩) h3 (hn g h2)).trans (h4 j hj t v hv)⟩),h.few⟩
theorem qm.rows{w:World}{bc bd:Nat}{T:Nat→Prop}{C:Ck}{a:Option Addr}{cap:Nat}(h:qm w bc bd T C a cap)(hk:∀p∈C.ws,p.1<65536):jU w T a C.ws:=by
 refine⟨fun p hp=>⟨h.ok p hp,hk p hp⟩,?_,h.few⟩
 rcases Nat.eq_zero_or_pos C.ws.length with h0|h0
 ·exact .inl (List.eq_nil_of_length_eq_zero h0)
 ·obtain⟨g,rfl⟩:=h.rowAt h0
  have hT:T g:=(h.own g).2 (.inr rfl)
  exact .inr ⟨g,rfl,hT,h.lt g hT,fun k hk=>h.range k hk⟩
theorem ft{D:Dk}{ws:List (Nat×List Value)}{k:Nat}(hk:k<ws.length):qd D (ws.drop k)=if D.writes ws[k].1=true then qd (D.write ws[k].1 ws[k].2) (ws.drop (k+1)) else (false,D):=by
 rw [List.drop_eq_getElem_cons hk,qd]
theorem vM{D:Dk}:D.flush.ps.length≤D.ps.length:=by
 unfold Dk.flush
 split
 ·exact Nat.le_refl _
 ·simp
theorem fw{D:Dk}{a:Int}(b:List Value)(h:D.writes a=false):D.write a b=D:=by
 unfold Dk.writes at h
 unfold Dk.write
 rw [if_neg (of_decide_eq_false h)]
theorem fx(w:World)(bd:Nat)(S T:Nat→Prop)(D:Dk)(h:zh w bd S D)(a:Option Addr)(cap:Nat)(ws:List (Nat×List Value))(hr:jU w T a ws)(hST:∀k,S k→¬T k)(hT:∀k,T k→k<w.heap.size)
 (hfu:zD D.fuse) (hps:D.ps.length≤34359738368):
 Calls Tryz.prog 85 #[.pointer (some ⟨bd,0,none⟩),.slice a ws.length cap] w fun e w'=>e=.returned (.bool (qC D ws).1)∧qK w w' bd S (qC D ws).2:=by
 obtain⟨Zw,hZw,hzw⟩:∃Zw:List Value,Zw=qU∧∀w,(zeroValue 160).run Tryz.prog w=.ok (.agg Zw.toArray) w:=⟨qU,rfl,zV Tryz.infoCw⟩
 have HZw:Hid (Zw.length=129):=by rw [hZw];exact congrArg (· +1) zF.1
 clear hZw
 have HIw:Hid ((Tryz.prog.info? 160).map (·.size)=some 129):=zS Tryz.infoCw
 have HI:Hid ((Tryz.prog.info? 131).map (·.size)=some 128):=zS Tryz.infoBlock
 have HH:Hid (zh w bd S D):=h
 have HR:Hid _:=hr
 have hfew:=hr.few
 clear h hr
 go_enter Tryz.func85,Tryz.ntmps85
 go_wp2
 go_loopw [9] (fun t wr=>∃(k:Nat) (D1:Dk),k≤ws.length∧t=.int .i64 k∧qd D ws=qd D1 (ws.drop k)∧qK w wr bd S D1∧zD D1.fuse∧D1.ps.length≤D.ps.length+k) (fun t _=>ws.length-(intOf t).toNat)
 case atStart=>exact⟨0,D,Nat.zero_le _,rfl,rfl,qK.refl HH.out,hfu,by omega⟩
 case round=>
  obtain⟨k,D1,hk,rfl,hwr,honto,hfu1,hps1⟩:=hrel
  have HWR:Hid _:=hwr
  have HO:Hid _:=honto
  obtain⟨⟨S1,hd1,hS1⟩,hk1⟩:=honto
  have HD1:Hid (zh wr bd S1 D1):=hd1
  have HS1:Hid _:=hS1
  have HK1:Hid _:=hk1
  have HST1:Hid (∀k,S1 k→¬T k):=fun j hj hjT=>by
   rcases hS1 j hj with h1|h1
   ·exact hST j h1 hjT
   ·have:=hT j hjT;omega
  have HRW:Hid (jU wr T a ws):=HR.out.kept hk1 (fun j hj hS=>hST j hS hj)
  clear hwr hd1 hS1 hk1
  by_cases hlt:k<ws.length
  ·rcases HRW.out.at_ with h0|⟨g,rfl,hgT,hgl,hrng⟩
   ·rw [h0] at hlt;simp at hlt
   ·have HP:Hid (wr.rangeAt g (k*129) (.int .i64 (ws[k].1:Int)::ws[k].2)):=hrng k hlt
    obtain⟨hpo,hpl⟩:=HRW.out.ok _ (List.getElem_mem hlt)
    have HPO:Hid (zy ws[k].2):=hpo
    have HWD:Hid _:=ft (D:=D1) hlt
    generalize hq:ws[k]=q at*
    obtain⟨qi,qb⟩:=q
    clear hq hpo hrng
    simp only at hpl
    have HKA:Hid (Kept (fun _=>False) wr (wr.alloc (.cells (.int .i64 (qi:Int)::qb).toArray 160))):=Kept.alloc _ _ _
    cases hw1:D1.writes qi with
    |true=>
     have HW1:Hid _:=hw1
     go_wp2_with (first
      |(show wpList _ _ _ ({dst:=some 12,op:=.load _ _,type:=_,pos:=_,after:=_,guard:=_}::_) _ _;refine wpList_load_mid rfl 160 (.tmp 11) rfl _ _ rfl (.int .i64 (qi:Int)::qb) _ HP.out Tryz.underlying160 rfl (by rw [List.length_cons,HPO.out.1];exact HIw.out) ?_)
      |(show wpList _ _ _ ({dst:=none,op:=.store _ (.tmp 6) (.tmp 12),type:=_,pos:=_,after:=_,guard:=_}::_) _ _;refine zg rfl 160 (.tmp 6) (.tmp 12) rfl _ _ (.int .i64 (qi:Int)::qb) rfl rfl rfl (by rw [List.length_cons,HPO.out.1];exact HIw.out) (by rw [List.length_cons,HPO.out.1];simpa using HZw.out) (List.forall_mem_cons.2 ⟨rfl,HPO.out.2⟩) ?_)
      |(show wpList _ _ _ ({dst:=some 17,op:=.load _ _,type:=_,pos:=_,after:=_,guard:=_}::_) _ _;refine wpList_load_mid rfl 131 (.tmp 16) rfl _ _ rfl qb _ (qJ (heap_alloc_new wr _)) Tryz.underlying131 rfl (by rw [HPO.out.1];exact HI.out) ?_)
      |(go_at_call 146;refine(yU _ bd S1 D1 (HD1.out.kept HKA.out nF) (qi:Int) (by constructor<;>omega) qb HPO.out hfu1 (by omega)).mono ?_;rintro e w2 ⟨rfl,⟨S2,hd2,hS2⟩,hk2⟩;rw [HW1.out];have HD2:Hid (zh w2 bd S2 (D1.write qi qb)):=hd2;have HS2:Hid _:=hS2;have HK2:Hid _:=hk2;clear hd2 hS2 hk2))
     go_roundw
     case rel=>
      refine⟨k+1,D1.write qi qb,by omega,by go_num,by rw [HWR.out,HWD.out,if_pos HW1.out],?_,xI _ _ hfu1,by have:=vH (D:=D1) qi qb;omega⟩
      exact qK.trans (D1:=D1) HS1.out HK1.out (qK.kept0 HKA.out ⟨⟨S2,HD2.out,HS2.out⟩,HK2.out⟩)
     case measure=>simp [intOf];omega
    |false=>
     have HW1:Hid _:=hw1
     go_wp2_with (first
      |(show wpList _ _ _ ({dst:=some 12,op:=.load _ _,type:=_,pos:=_,after:=_,guard:=_}::_) _ _;refine wpList_load_mid rfl 160 (.tmp 11) rfl _ _ rfl (.int .i64 (qi:Int)::qb) _ HP.out Tryz.underlying160 rfl (by rw [List.length_cons,HPO.out.1];exact HIw.out) ?_)
      |(show wpList _ _ _ ({dst:=none,op:=.store _ (.tmp 6) (.tmp 12),type:=_,pos:=_,after:=_,guard:=_}::_) _ _;refine zg rfl 160 (.tmp 6) (.tmp 12) rfl _ _ (.int .i64 (qi:Int)::qb) rfl rfl rfl (by rw [List.length_cons,HPO.out.1];exact HIw.out) (by rw [List.length_cons,HPO.out.1];simpa using HZw.out) (List.forall_mem_cons.2 ⟨rfl,HPO.out.2⟩) ?_)
      |(show wpList _ _ _ ({dst:=some 17,op:=.load _ _,type:=_,pos:=_,after:=_,guard:=_}::_) _ _;refine wpList_load_mid rfl 131 (.tmp 16) rfl _ _ rfl qb _ (qJ (heap_alloc_new wr _)) Tryz.underlying131 rfl (by rw [HPO.out.1];exact HI.out) ?_)
      |(go_at_call 146;refine(yU _ bd S1 D1 (HD1.out.kept HKA.out nF) (qi:Int) (by constructor<;>omega) qb HPO.out hfu1 (by omega)).mono ?_;rintro e w2 ⟨rfl,⟨S2,hd2,hS2⟩,hk2⟩;rw [HW1.out];have HD2:Hid (zh w2 bd S2 (D1.write qi qb)):=hd2;have HS2:Hid _:=hS2;have HK2:Hid _:=hk2;clear hd2 hS2 hk2))
     go_ret
     have e0:qd D ws=(false,D1):=by rw [HWR.out,HWD.out,if_neg (by rw [HW1.out];simp)]
     have e1:qC D ws=(false,D1):=by
      unfold qC yT
      rw [e0];simp
     rw [e1]
     have hd2:=HD2.out
     rw [fw qb HW1.out] at hd2
     exact⟨rfl,qK.trans (D1:=D1) HS1.out HK1.out (qK.kept0 HKA.out ⟨⟨S2,hd2,HS2.out⟩,HK2.out⟩)⟩
  ·have HE:Hid (qd D ws=(true,D1)):=by show _=_;rw [HWR.out,List.drop_of_length_le (by omega)];rfl
   cases hz:(D1.fuse==0) with
   |false=>
    have HZ:Hid _:=hz
    go_wp2_with (first
     |(go_at_call 40;refine(yc _ bd S1 D1 HD1.out hfu1).mono ?_;rintro e w2 ⟨rfl,⟨S2,hd2,hS2⟩,hk2⟩;rw [HZ.out];have HD2:Hid (zh w2 bd S2 D1.flush):=hd2;have HS2:Hid _:=hS2;have HK2:Hid _:=hk2;clear hd2 hS2 hk2)
     |(go_at_call 131;refine(xQ _ 1 (by omega)).mono ?_;rintro e w3 ⟨rfl,hk3⟩;have HK3:Hid _:=hk3;clear hk3)
     |(go_at_call 147;refine(uO _ bd S2 D1.flush (HD2.out.kept HK3.out nF) (zl (Pg.new 1)) (qP (Pg.new_ok 1 (by omega))) (xJ hfu1) (by have:=vM (D:=D1);omega)).mono ?_;rintro e w4 ⟨rfl,hon4⟩;have HO4:Hid _:=hon4;clear hon4))
    go_ret
    have e1:qC D ws=yM D1.flush xk:=by
     have hz2:D1.fuse≠0:=by have:=HZ.out;simpa using this
     unfold qC yT
     rw [HE.out,if_pos ⟨rfl,hz2⟩]
    rw [e1]
    exact⟨by simp [xk],qK.trans (D1:=D1) HS1.out HK1.out (qK.trans (D1:=D1) (fun k hk=>.inl (HS2.out k hk)) HK2.out (qK.kept0 HK3.out HO4.out))⟩
   |true=>
    have HZ:Hid _:=hz
    go_wp2_with (go_at_call 40;refine(yc _ bd S1 D1 HD1.out hfu1).mono ?_;rintro e w2 ⟨rfl,⟨S2,hd2,hS2⟩,hk2⟩;rw [HZ.out];have HD2:Hid (zh w2 bd S2 D1.flush):=hd2;have HS2:Hid _:=hS2;have HK2:Hid _:=hk2;clear hd2 hS2 hk2)
    go_ret
    have hz2:D1.fuse=0:=by have:=HZ.out;simpa using this
    have e1:qC D ws=(false,D1):=by
     unfold qC yT
     rw [HE.out,if_neg (by simp [hz2])]
    have e2:D1.flush=D1:=if_pos hz2
    rw [e1]
    have hd2:=HD2.out
    rw [e2] at hd2
    exact⟨rfl,qK.trans (D1:=D1) HS1.out HK1.out ⟨⟨S2,hd2,fun k hk=>.inl (HS2.out k hk)⟩,HK2.out⟩⟩
end prog
end Go.Proofs.YtcoengihaobddaaGreatDoor

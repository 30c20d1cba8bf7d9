/- Proved: a disk that was filled with any changes and emptied in any order, up to three times, takes as much as a new one (the law Emptied answers true), and what is handed in reads as it did; no condition. The card ties the listed tables to the program's text (a pruned copy of the project: see the seat's page). -/
import Derived.Test.YtcoengihaobddaaGreatDoorJm30
import Derived.Test.YtcoengihaobddaaGreatDoorJm29
import Derived.Test.YtcoengihaobddaaGreatDoorJm12
import Derived.Test.YtcoengihaobddaaGreatDoorCards
import Derived.Test.YtcoengihaobddaaGreatDoorTie
import Derived.Deep.DeepHandedRow
import Derived.Deep.DeepWitnessRowRef
import Derived.Lib.LaidIn
import Derived.Lib.LaidU8
import Derived.WideKeyArgs
set_option maxHeartbeats 8000000
set_option linter.unusedVariables false
set_option linter.unusedSimpArgs false
set_option maxRecDepth 8000
namespace Go.Proofs.YtcoengihaobddaaGreatDoor
namespace prog
open Go.ChangeShapes Go.WideShapes Go.ChangeAt Go.RowKit disk ref
open keys (zj zd zA zq)
attribute [local go_sem] Oper.semAt_some
def bZ(pre:List BP):List Nat:=pre.map fun x=>x.p.at_
theorem YB{ps:List zp}{pre:List BP}(h:pre.map BP.p<+:ps):bZ pre<+:ps.map zp.at_:=by
 have:=h.map zp.at_
 rw [List.map_map] at this
 exact this
structure Vu (w1:World) (bc bd:Nat) (S T:Nat→Prop) (D:Dk) (C:Ck) (m:List UInt8) (ps:List zp) (b2 bx:Nat) (r:Int) (pre:List BP) (Q:Nat→Prop) (A:World):Prop where
 st:∃(n:Int) (T1:Nat→Prop),0≤n∧n≤r+pre.length∧Cw A bc bd S T1 {D with reads:=D.reads+n} (yc (bZ pre) (C,m)).1∧(∀j,T1 j→T j∨w1.heap.size+2≤j)∧∀k,Q k↔T1 k∧w1.heap.size+2≤k
 box:A.heap[b2]? =some (.cells #[.iface 142 (.pointer (some ⟨bc,0,none⟩))] 193 (0,0))
 cbx:A.heap[bx]? =some (.cells #[.pointer (some ⟨bc,0,none⟩)] 142 (0,0))
 pfx:pre.map BP.p<+:ps
 kept:za (fun k=>k=bd∨T k∨w1.heap.size≤k) w1 A
 rr:0≤r
def VM(w1:World)(bc bd:Nat)(S T:Nat→Prop)(D:Dk)(C:Ck)(m:List UInt8)(ps:List zp)(b2:Nat)(r:Int)(pre:List BP)(A:World):Prop:=
 (∃(n:Int) (T1:Nat→Prop),0≤n∧n≤r+pre.length∧Cw A bc bd S T1 {D with reads:=D.reads+n} (yc (bZ pre) (C,m)).1∧(∀j,T1 j→T j∨w1.heap.size+2≤j))∧
  A.heap[b2]? =some (.cells #[.iface 142 (.pointer (some ⟨bc,0,none⟩))] 193 (0,0))∧pre.map BP.p<+:ps∧0≤r
theorem Z0{D:Dk}{C:Ck}{m:List UInt8}(h:fD D C m){ps:List zp}(hrg:∀q∈ps,21≤q.at_∧q.at_<1000){pre:List BP}(hp:pre.map BP.p<+:ps):fD D (yc (bZ pre) (C,m)).1 (yc (bZ pre) (C,m)).2∧vT D C (yc (bZ pre) (C,m)).1 m (yc (bZ pre) (C,m)).2 [] (bZ pre)∧(yc (bZ pre) (C,m)).1.ws.length≤C.ws.length+ps.length:=by
 have hs:=(YB hp).subset
 obtain⟨h1,h2,h3⟩:=jp (bZ pre) C m h (fun j hj=>by
  obtain⟨q,hq,rfl⟩:=List.mem_map.1 (hs hj)
  exact hrg q hq)
 refine⟨h1,h2,Nat.le_trans h3 ?_⟩
 have:=(YB hp).length_le
 simp at this
 omega
theorem Xy(w:World)(bc bd:Nat)(S T:Nat→Prop)(D:Dk)(C:Ck)(h:Cw w bc bd S T D C)(m:List UInt8)(hcl:fD D C m)(hr0:0≤D.reads)(hr1:D.reads≤4611686018427380000)(ps:List zp)(hch:yj (fun j=>C.look D (j:Nat)) ps)(hnd:(ps.map zp.at_).Nodup)(hp3:ps.length≤3)(hrg:∀q∈ps,21≤q.at_∧q.at_<1000)(first:Nat)(hf:yt ps=first)(hfew:C.ws.length<600)(C':Ck)(m':List UInt8)(hfree:yc (ps.map zp.at_) (C,m)=(C',m')):
 Calls Tryz.prog 80 #[.pointer (some ⟨bc,0,none⟩),.int .i64 first] w fun e w'=>e=.returned (.tuple #[])∧(∃(n:Int) (T':Nat→Prop),0≤n∧n≤6∧Cw w' bc bd S T' {D with reads:=D.reads+n} C'∧∀j,T' j→T j∨w.heap.size≤j)∧za (fun j=>j=bd∨T j) w w':=by
 have HH:Hid _:=h
 have HCL:Hid (fD D C m):=hcl
 have HCH:Hid (yj (fun j=>C.look D (j:Nat)) ps):=hch
 have HND:Hid ((ps.map zp.at_).Nodup):=hnd
 have HRG:Hid (∀q∈ps,21≤q.at_∧q.at_<1000):=hrg
 have HF:Hid (yt ps=first):=hf
 have HFREE:Hid (yc (ps.map zp.at_) (C,m)=(C',m')):=hfree
 have hbd:bd<w.heap.size:=h.disk.lt bd h.disk.bdS
 have HTL:Hid (∀j,T j→j<w.heap.size):=h.chg.lt
 have HSL:Hid (∀j,S j→j<w.heap.size):=h.disk.lt
 clear h hcl hch hnd hrg hf hfree
 refine q9 Tryz.func80 rfl ?_
 simp only [Tryz.ntmps80,List.size_toArray,List.length_cons,List.length_nil,Nat.reduceAdd,Nat.reduceSub,Array.replicate_succ,Array.replicate_zero,List.push_toArray,List.append_toArray,List.nil_append,List.cons_append]
 go_wp2_with fail
 have HK0:Hid (za (fun _=>False) w (w.alloc (.cells #[.pointer (some ⟨bc,0,none⟩)] 142))):=za.alloc _ _ _
 have HBX:Hid ((w.alloc (.cells #[.pointer (some ⟨bc,0,none⟩)] 142)).heap[w.heap.size]? =some (.cells #[.pointer (some ⟨bc,0,none⟩)] 142 (0,0))):=heap_alloc_new w _
 have hs0:(w.alloc (.cells #[.pointer (some ⟨bc,0,none⟩)] 142)).heap.size=w.heap.size+1:=by simp
 generalize (w.alloc (.cells #[.pointer (some ⟨bc,0,none⟩)] 142))=W0 at*
 refine(dF W0 142 ⟨bc,0,none⟩ first).mono ?_
 rintro e w1 ⟨rfl,hb1,hb2,hk1,hs1⟩
 rw [hs0] at hb1 hb2 hs1
 have HB1:Hid (w1.heap[w.heap.size+1+1]? =_):=hb1
 have HB2:Hid (w1.heap[w.heap.size+1]? =_):=hb2
 have HKw1:Hid (za (fun _=>False) w w1):=HK0.out.trans hk1 iL
 have HBX1:Hid (w1.heap[w.heap.size]? =some (.cells #[.pointer (some ⟨bc,0,none⟩)] 142 (0,0))):=(hk1.block _ (by omega) id).trans HBX.out
 clear hb1 hb2 hk1
 rw [hs0]
 go_wp2_with fail
 have HSEQ:Hid (∀W1,za (fun _=>False) w1 W1→W1.heap.size=w1.heap.size+2→kE Tryz.prog 124 #[.pointer (some ⟨w.heap.size+1+1,0,none⟩),.pointer (some ⟨w.heap.size+1,0,none⟩)] QI (fun k=>k=bd) (VM w1 bc bd S T D C m ps (w.heap.size+1)) (fun r pre x A=>Zo (w1.heap.size+2) ps pre x A∧r≤0+pre.length+1) (fun r xs=>xs.map BP.p=ps∧r≤0+ps.length) (fun _ _=>True) 0 W1):=fun W1 hk hsz=>by
  have:=dA W1 142 192 ⟨bc,0,none⟩ (gY _) (w.heap.size+1+1) (w.heap.size+1) ps (fun j=>C.look D (j:Nat)) HCH.out HND.out (fun k=>k=bd) (VM w1 bc bd S T D C m ps (w.heap.size+1)) 0 (fun k hk=>by rw [hk];omega)
   (by rw [HF.out];exact(hk.block _ (by omega) id).trans HB1.out) (fun r pre A h=>h.2.1)
   (fun r pre A B h hk=>by
    obtain⟨⟨n,T1,a1,a2,a3,a4⟩,b1,b2,b3⟩:=h
    exact⟨⟨n,T1,a1,a2,a3.kept0 hk,a4⟩,(hk.block _ (lT b1) id).trans b1,b2,b3⟩)
   (fun i hi r pre A h hpre hrr=>by
    obtain⟨⟨n,T1,a1,a2,a3,a4⟩,b1,b2,b3⟩:=h
    have hpl:pre.length=i:=by have:=congrArg List.length hpre;simp at this;omega
    obtain⟨c1,c2,c3⟩:=Z0 HCL.out HRG.out b2
    have hat:=HRG.out _ (List.getElem_mem hi)
    have hnot:ps[i].at_∉bZ pre:=fun hc=>by
     have e1:bZ pre=(ps.map zp.at_).take i:=by
      have:=congrArg (List.map zp.at_) hpre
      rw [List.map_map,List.map_take] at this
      exact this
     rw [e1] at hc
     obtain⟨j,hj,hj2⟩:=List.mem_take_iff_getElem.1 hc
     have hji:j<i:=by omega
     have:=List.pairwise_iff_getElem.1 HND.out j i (by omega) (by simpa using hi) hji
     rw [hj2] at this
     simp at this
    refine(jh A bc bd S T1 {D with reads:=D.reads+n} _ a3 _ (by constructor<;>omega) (by show 0≤D.reads+n;omega) (by show D.reads+n≤_;omega)).mono ?_
    rintro x A' ⟨rfl,⟨n2,d1,d2,d3⟩,d4⟩
    refine⟨?_,d4,r+1,by omega,by omega,⟨n+n2,T1,by omega,by omega,by rw [←Int.add_assoc];exact d3,a4⟩,(d4.block _ (lT b1) (by omega)).trans b1,b2,by omega⟩
    rw [zD,c2.look _ (fun hc=>nomatch hc) hnot (by omega)])
  rw [hsz] at this
  exact this
 have HNB:Hid (∀A B Z r r' pre Q,Vu w1 bc bd S T D C m ps (w.heap.size+1) w.heap.size r pre Q A→za Z A B→(∀k,Z k→k=w1.heap.size∨k=w1.heap.size+1)→r'=r→Vu w1 bc bd S T D C m ps (w.heap.size+1) w.heap.size r' pre Q B):=by
  rintro A B Z r r' pre Q hi hk hZ rfl
  obtain⟨n,T1,a1,a2,a3,a4,a5⟩:=hi.st
  have nz:∀b,b<w1.heap.size→¬Z b:=fun b hb hc=>by have:=hZ b hc;omega
  refine⟨⟨n,T1,a1,a2,a3.kept hk (fun j hj=>nz j (by have:=HSL.out j hj;omega)) (fun j hj hc=>?_),a4,a5⟩,(hk.block _ (lT hi.box) (nz _ (by omega))).trans hi.box,(hk.block _ (lT hi.cbx) (nz _ (by omega))).trans hi.cbx,hi.pfx,hi.kept.trans hk (fun i hi=>.inl (.inr (.inr (by have:=hZ i hi;omega)))),hi.rr⟩
  rcases a4 j hj with h|h
  ·exact nz j (by have:=HTL.out j h;omega) hc
  ·have:=hZ j hc;omega
 refine jk (α:=BP) (gf:= 124) (lb:=#[.pointer (some ⟨w.heap.size+1+1,0,none⟩),.pointer (some ⟨w.heap.size+1,0,none⟩)]) rfl (enters_of Tryz.func124 (by kernel_rfl) rfl) HSEQ.out
  (fun k hk=>by rw [hk];omega) (fun _=>rfl)
  (Vu w1 bc bd S T D C m ps (w.heap.size+1) w.heap.size) (fun c r pre A=>False)
  (fun r pre Q A h=>by
   obtain⟨n,T1,a1,a2,a3,a4,a5⟩:=h.st
   exact⟨⟨⟨n,T1,a1,a2,a3,a4⟩,h.box,h.pfx,h.rr⟩,fun k hk=>by
    have h1:=(a5 k).1 hk
    have h2:=a3.chg.lt k h1.1
    omega⟩)
  (fun r r' pre Q A B h hr hk hi=>by
   obtain⟨n,T1,a1,a2,a3,a4,a5⟩:=h.st
   obtain⟨⟨n',T2,b1,b2,b3,b4⟩,b5,b6,b7⟩:=hi
   have hn:∀b,b≠bd→b<A.heap.size→B.heap[b]? =A.heap[b]? :=fun b hb hl=>hk.block b hl hb
   exact⟨⟨n',T1,b1,b2,⟨b3.disk,a3.chg.kept hk (fun j hj e0=>a3.apart bd a3.disk.bdS (by rw [←show j=bd from e0];exact hj)),a3.apart⟩,a4,a5⟩,b5,(hn _ (by omega) (lT h.cbx)).trans h.cbx,b6,h.kept.trans hk (fun i hi=>.inl (.inl hi)),b7⟩)
  (fun r pre Q A B h hk=>HNB.out A B _ r r pre Q h hk (fun k hk=>hk) rfl)
  (fun c r pre A B h hk=>h)
  ⟨⟨0,T,Int.le_refl _,by simp,by rw [Int.add_zero];exact HH.out.kept0 HKw1.out,fun j hj=>.inl hj,fun k=>⟨fun h=>h.elim,fun h=>by have:=HTL.out k h.1;omega⟩⟩,HB2.out,HBX1.out,List.nil_prefix,za.refl _ _,Int.le_refl _⟩
  (fun x a' A=>a'={tmps:=#[.pointer (some ⟨bc,0,none⟩),.int .i64 (first:Int),.pointer (some ⟨w.heap.size,0,none⟩),undef,.int .i64 (x.p.at_:Int),.pointer (some ⟨bc,0,none⟩),.iface 142 (.pointer (some ⟨bc,0,none⟩)),.int .i64 (first:Int),.func (.func 124) #[] #[.pointer (some ⟨w.heap.size+1+1,0,none⟩),.pointer (some ⟨w.heap.size+1,0,none⟩)],.int .i64 (x.p.at_:Int),.slice (some ⟨x.g,4,none⟩) x.p.l.length 124,undef,undef,undef],defers:=[] })
  (fun x a A B h hk=>h)
  (fun r pre x A B h hk=>⟨⟨h.1.pre,by obtain⟨nx,hp⟩:=h.1.pg;exact⟨nx,hp.kept hk (by have:=h.1.ge;omega)⟩,h.1.ge⟩,h.2⟩) ?assign ?body ?done ?stop
 case assign=>
  intro ll r pre x Q A K hi hh hlt hK
  dsimp only [QI]
  gi_wp2
  exact hK _ _ (za.refl _ _) hi hh rfl
 case body=>
  rintro ll r pre x Q a' A hi hh rfl hlt
  obtain⟨n,T1,a1,a2,a3,a4,a5⟩:=hi.st
  have HI:Hid (Vu w1 bc bd S T D C m ps (w.heap.size+1) w.heap.size r pre Q A):=hi
  have HPX:Hid ((pre.map BP.p++[x.p])<+:ps):=hh.1.pre
  obtain⟨c1,c2,c3⟩:=Z0 HCL.out HRG.out hi.pfx
  have hat:=HRG.out x.p (hh.1.pre.subset (by simp))
  have hpl:pre.length+1≤3:=by have:=hh.1.pre.length_le;simp at this;omega
  have hrr:=hh.2
  have HA3:Hid _:=a3
  have HA4:Hid (∀j,T1 j→T j∨w1.heap.size+2≤j):=a4
  have HA5:Hid (∀k,Q k↔T1 k∧w1.heap.size+2≤k):=a5
  have HFR:Hid (Calls Tryz.prog 143 #[.pointer (some ⟨bc,0,none⟩),.int .i64 (x.p.at_:Int)] A fun e w'=>e=.returned (.tuple #[])∧(∃(n':Int) (T':Nat→Prop),0≤n'∧n'≤1∧Cw w' bc bd S T' {D with reads:=D.reads+n+n'} (yc (bZ (pre++[x])) (C,m)).1∧∀k,T' k→T1 k∨A.heap.size≤k)∧za (fun k=>k=bd∨T1 k) A w'):=by
   have:=vS A bc bd S T1 {D with reads:=D.reads+n} _ a3 (yc (bZ pre) (C,m)).2 (by rw [zD];exact c1.map) (by show 0≤D.reads+n;omega) (by show D.reads+n≤_;omega) (by omega) (x.p.at_-21) (by omega)
   rw [show ((x.p.at_-21:Nat):Int)+21=(x.p.at_:Int) from by omega] at this
   have e1:bZ (pre++[x])=bZ pre++[x.p.at_]:=by simp [bZ]
   show Calls _ _ _ _ _
   rw [e1,fK]
   exact this
  have cx:A.cell? ⟨w.heap.size,0,none⟩=some (.pointer (some ⟨bc,0,none⟩)):=cR hi.cbx rfl
  clear a3 a4 a5 c1 c2 c3 hi hh
  gi_wp2_with fail
  refine⟨trivial,rfl,?_⟩
  refine((qW ll).calls HFR.out).mono ?_
  rintro e A' ⟨rfl,⟨n2,T2,d1,d2,d3,d4⟩,d5⟩
  have HD3:Hid _:=d3
  have HD4:Hid (∀k,T2 k→T1 k∨A.heap.size≤k):=d4
  have HD5:Hid (za (fun k=>k=bd∨T1 k) A A'):=d5
  clear d3 d4 d5
  gi_wp2
  have hzA:=HI.out.kept.size
  have hT2:∀j,T2 j→T j∨w1.heap.size+2≤j:=fun j hj=>(HD4.out j hj).elim (HA4.out j) (fun h=>.inr (by omega))
  have nb:∀b,w.heap.size≤b→b<w1.heap.size→¬(b=bd∨T1 b):=fun b h1 h2 hc=>by
   rcases hc with h|h
   ·omega
   ·rcases HA4.out b h with h|h
    ·have:=HTL.out b h;omega
    ·omega
  refine⟨HD5.out.mono (fun j hj=>?_),fun k=>T2 k∧w1.heap.size+2≤k,⟨⟨n+n2,T2,by omega,by rw [List.length_append,List.length_singleton];omega,by rw [←Int.add_assoc];exact HD3.out,hT2,fun k=>Iff.rfl⟩,(HD5.out.block _ (lT HI.out.box) (nb _ (by omega) (by omega))).trans HI.out.box,(HD5.out.block _ (lT HI.out.cbx) (nb _ (by omega) (by omega))).trans HI.out.cbx,by rw [List.map_append];exact HPX.out,HI.out.kept.trans HD5.out (fun j hj=>.inl ?_),HI.out.rr⟩,fun k hk=>?_⟩
  ·rcases hj with h|h
   ·exact .inl (by omega)
   ·rcases HA4.out j h with h2|h2
    ·exact .inl (by have:=HTL.out j h2;omega)
    ·exact .inr ((HA5.out j).2 ⟨h,h2⟩)
  ·rcases hj with h|h
   ·exact .inl h
   ·rcases HA4.out j h with h2|h2
    ·exact .inr (.inl h2)
    ·exact .inr (.inr (by omega))
  ·rcases HD4.out k hk.1 with h|h
   ·exact .inl ((HA5.out k).2 ⟨h,hk.2⟩)
   ·exact .inr h
 case done=>
  rintro DD r xs Q A hS hi rfl hK
  obtain⟨n,T1,a1,a2,a3,a4,a5⟩:=hi.st
  have e1:bZ xs=ps.map zp.at_:=by rw [←hS.1,List.map_map];rfl
  have hxl:xs.length=ps.length:=by rw [←hS.1];simp
  have hr:=hS.2
  rw [e1,HFREE.out] at a3
  have kp:za (fun k=>k=w1.heap.size) A (A.putObj w1.heap.size (.deferred none)):=za.putObj _ _ _ rfl
  have hkw:=hi.kept
  show Zn _ _ _ .ret _ _
  refine xq rfl hK (results_none rfl _ _ _) ⟨rfl,⟨n,T1,a1,by omega,a3.kept kp (fun j hj e0=>by have:=HSL.out j hj;omega) (fun j hj e0=>by
   rcases a4 j hj with h|h
   ·have:=HTL.out j h;omega
   ·omega),fun j hj=>(a4 j hj).imp id (fun h=>by omega)⟩,?_⟩
  exact((HKw1.out.mono (S':=fun j=>j=bd∨T j) fE).trans hkw (fun j hj=>by
   rcases hj with h|h|h
   ·exact .inl (.inl h)
   ·exact .inl (.inr h)
   ·exact .inr (by omega))).trans kp (fun j hj=>.inr (by omega))
 case stop=>
  rintro DD c r pre A hS hi rfl hK
  exact hi.elim
end prog
namespace prog
open Go.ChangeShapes Go.WideShapes Go.ChangeAt Go.RowKit disk ref
open Go.MuLone
open keys (zj zd zA zq zs)
structure Rest (D:Dk) (n:Nat) (e:En) (root':Nat) (C1 C2:Ck) (m1 m2:List UInt8) (ps:List zp):Prop where
 cln:fD D C1 m1
 few:C1.ws.length≤100
 lt:root'<65536
 chain:yj (fun j=>C1.look D (j:Nat)) ps
 nodup:(ps.map zp.at_).Nodup
 head:yt ps=e.at_
 three:ps.length≤3
 range:∀q∈ps,21≤q.at_∧q.at_<1000
 free:yc (ps.map zp.at_) (C1,m1)=(C2,m2)
 full:(C2.put 1 (zl (zB root' n))).full=false
 fits:(C2.put 1 (zl (zB root' n))).ws.length≤18
 keys:∀k∈(C2.put 1 (zl (zB root' n))).keys,k<D.bs.length
def Vl(D:Dk)(n:Nat)(e:En)(root':Nat)(C1 C2:Ck)(m1 m2:List UInt8)(ps:List zp)(v:List Value)(ok:Bool):Prop:=(ok=false∧v=qd)∨(ok=true∧v=qc e∧Rest D n e root' C1 C2 m1 m2 ps)
def VD(w w':World)(bd:Nat)(S:Nat→Prop)(D:Dk)(n root':Nat)(C2:Ck)(ok:Bool)(x:Ending):Prop:=∃kk:Int,0≤kk∧kk≤40∧
 ((ok=false∧x=.returned (.int .i64 5)∧qN w w' bd S {D with reads:=D.reads+kk })∨(ok=true∧x=.returned (.int .i64 0)∧qN w w' bd S {D with bs:=vk D.bs (C2.put 1 (zl (zB root' n))).ws,reads:=D.reads+kk }))
theorem fD.reads{D:Dk}{C:Ck}{m:List UInt8}(h:fD D C m)(r:Int):fD {D with reads:=r} C m:=⟨by rw [zD];exact h.map,h.full,h.nodup⟩
theorem uU(w:World)(bs bd:Nat)(S:Nat→Prop)(D:Dk)(k:Int)(hs:zu w bs k (some bd))(hd:zh w bd S D)(hn:¬S bs)(hr0:0≤D.reads)(hr1:D.reads≤4611686018427350000)(hps:D.ps=[])(hfu:D.fuse= -1)(h64:64≤D.bs.length)(hN:D.bs.length≤1000)
 (tree n:Nat) (hb:qQ (D.look 1) tree n) (hn9:n<4611686018427387904) (p:Pl) (e:En) (root':Nat) (C1 C2:Ck) (m1 m2:List UInt8) (ps:List zp) (v:List Value) (ok:Bool) (hcall:yX (w.heap.size+1) bd S (fun j=>j=w.heap.size+1) D vH tree p root' v ok C1) (hcase:Vl D n e root' C1 C2 m1 m2 ps v ok):
 Calls Tryz.prog 53 #[.pointer (some ⟨bs,0,none⟩),.agg #[.string p.key,.int .i64 p.num]] w fun x w'=>VD w w' bd S D n root' C2 ok x:=by
 have HS:Hid _:=hs
 have HD:Hid (zh w bd S D):=hd
 have HB:Hid (qQ (D.look 1) tree n):=hb
 have HCALL:Hid (yX (w.heap.size+1) bd S (fun j=>j=w.heap.size+1) D vH tree p root' v ok C1):=hcall
 have HCASE:Hid (Vl D n e root' C1 C2 m1 m2 ps v ok):=hcase
 have HPS0:Hid (D.ps=[]):=hps
 have HFU:Hid (D.fuse= -1):=hfu
 have c2:w.cell? ⟨bs,2,none⟩=some (.pointer (some ⟨bd,0,none⟩)):=hs.c2
 have hbd:bd<w.heap.size:=hd.lt bd hd.bdS
 have HSL:Hid (∀j,S j→j<w.heap.size):=hd.lt
 have hbs:=hs.lt
 clear hs hd hb hcall hcase hps hfu
 have HKP:Hid (za (fun _=>False) w (w.alloc (.cells #[.string p.key,.int .i64 p.num] 107))):=za.alloc _ _ _
 have HBP:Hid ((w.alloc (.cells #[.string p.key,.int .i64 p.num] 107)).heap[w.heap.size]? =some (.cells #[.string p.key,.int .i64 p.num] 107 (0,0))):=heap_alloc_new w _
 have hsP:(w.alloc (.cells #[.string p.key,.int .i64 p.num] 107)).heap.size=w.heap.size+1:=by simp
 go_enter Tryz.func53,Tryz.ntmps53
 go_wp2_with fail
 generalize (w.alloc (.cells #[.string p.key,.int .i64 p.num] 107))=W at*
 refine(dw W bd (by omega)).mono ?_
 rintro x w1 ⟨rfl,hch1,hk1⟩
 rw [hsP] at hch1 ⊢
 have HK1:Hid (za (fun _=>False) w w1):=HKP.out.trans hk1 iL
 have hz1:=hk1.size
 have HBP1:Hid (w1.heap[w.heap.size]? =_):=(hk1.block _ (by omega) id).trans HBP.out
 have HC1:Hid (Cw w1 (w.heap.size+1) bd S (fun j=>j=w.heap.size+1) D vH):=⟨HD.out.kept HK1.out nF,hch1,fun j hj hT=>by have:=HSL.out j hj;omega⟩
 clear hch1 hk1 c2
 go_wp2_with fail
 refine(dB w1 (w.heap.size+1) bd S _ D vH HC1.out hr0 (by omega) tree n (by rw [yi];exact HB.out)).mono ?_
 rintro x w2 ⟨rfl,⟨k2,hk20,hk21,hc2'⟩,hk2⟩
 have HC2:Hid (Cw w2 (w.heap.size+1) bd S (fun j=>j=w.heap.size+1) {D with reads:=D.reads+k2} vH):=hc2'
 have HK2:Hid (za (fun i=>i=bd) w1 w2):=hk2
 have hz2:=hk2.size
 have hbc:w.heap.size+1<w1.heap.size:=HC1.out.chg.lt _ rfl
 have HBP2:Hid (w2.heap[w.heap.size]? =_):=(hk2.block _ (by omega) (by omega)).trans HBP1.out
 have q0:w2.cell? ⟨w.heap.size,0,none⟩=some (.string p.key):=cR HBP2.out rfl
 have q1:w2.cell? ⟨w.heap.size,1,none⟩=some (.int .i64 p.num):=cR HBP2.out rfl
 have hlw:w.heap.size<w2.heap.size:=by omega
 clear hc2' hk2
 go_wp2_with fail
 have HBR:Hid ((w2.alloc (.cells #[.int .i64 (tree:Int),.int .i64 (n:Int)] 145)).heap[w2.heap.size]? =some (.cells #[.int .i64 (tree:Int),.int .i64 (n:Int)] 145 (0,0))):=heap_alloc_new w2 _
 have HKW:Hid (za (fun _=>False) w2 (w2.alloc (.cells #[.int .i64 (tree:Int),.int .i64 (n:Int)] 145))):=za.alloc _ _ _
 have hsW:(w2.alloc (.cells #[.int .i64 (tree:Int),.int .i64 (n:Int)] 145)).heap.size=w2.heap.size+1:=by simp
 generalize (w2.alloc (.cells #[.int .i64 (tree:Int),.int .i64 (n:Int)] 145))=W3 at*
 refine(HCALL.out.go W3 (D.reads+k2) (by omega) (by omega) (HC2.out.kept0 HKW.out)).mono ?_
 rintro x w4 ⟨rfl,⟨n4,T4,hn40,hn41,hc4,hT4⟩,hk4⟩
 have HC4:Hid (Cw w4 (w.heap.size+1) bd S T4 {D with reads:=D.reads+k2+n4} C1):=hc4
 have HT4:Hid (∀j,T4 j→j=w.heap.size+1∨W3.heap.size≤j):=hT4
 have HK4:Hid (za (fun j=>j=bd∨j=w.heap.size+1) W3 w4):=hk4
 have hz4:=hk4.size
 have HB4:Hid (w4.heap[w2.heap.size]? =_):=(hk4.block _ (by omega) (by omega)).trans HBR.out
 have HKw4:Hid (za (fun j=>j=bd) w w4):=(((HK1.out.mono fE).trans HK2.out iL).trans HKW.out fE).trans HK4.out (fun j hj=>hj.imp id (fun h=>by omega))
 clear hc4 hT4 hk4 q0 q1
 rcases HCASE.out with⟨rfl,rfl⟩|⟨rfl,rfl,hR⟩
 ·unfold qd
  go_wp2
  have kA:=za.alloc (fun _=>False) w4 (.cells #[.string ⟨#[]⟩,.int .i64 0,.bool false,.int .i64 0,.int .i64 0] 109)
  refine bodyPost_ret (results_tmp rfl _ _ _) rfl ⟨k2+n4,by omega,by omega,.inl ⟨rfl,rfl,⟨⟨S,?_,fun _ h=>.inl h⟩,(HKw4.out.trans kA fE).mono (fun j hj=>by rw [show j=bd from hj];exact HD.out.bdS)⟩⟩⟩
  rw [←Int.add_assoc]
  exact HC4.out.disk.kept kA nF
 ·have HR:Hid (Rest D n e root' C1 C2 m1 m2 ps):=hR
  clear hR HCASE
  unfold qc
  go_wp2_with fail
  have HKE:Hid (za (fun _=>False) w4 (w4.alloc (.cells #[.string e.pl.key,.int .i64 e.pl.num,.bool e.mark,.int .i64 (e.size:Int),.int .i64 (e.at_:Int)] 109))):=za.alloc _ _ _
  have hsE:(w4.alloc (.cells #[.string e.pl.key,.int .i64 e.pl.num,.bool e.mark,.int .i64 (e.size:Int),.int .i64 (e.at_:Int)] 109)).heap.size=w4.heap.size+1:=by simp
  generalize (w4.alloc (.cells #[.string e.pl.key,.int .i64 e.pl.num,.bool e.mark,.int .i64 (e.size:Int),.int .i64 (e.at_:Int)] 109))=W5 at*
  have hfw:=HR.out.few
  refine(Xy W5 (w.heap.size+1) bd S T4 {D with reads:=D.reads+k2+n4} C1 (HC4.out.kept0 HKE.out) m1 (HR.out.cln.reads _) (by show 0≤D.reads+k2+n4;omega) (by show D.reads+k2+n4≤_;omega) ps (HR.out.chain.congr (fun q _=>zD _ _ _ _)) HR.out.nodup HR.out.three HR.out.range e.at_ HR.out.head (by omega) C2 m2 HR.out.free).mono ?_
  rintro x w6 ⟨rfl,⟨n6,T6,hn60,hn61,hc6,hT6⟩,hk6⟩
  have HC6:Hid (Cw w6 (w.heap.size+1) bd S T6 {D with reads:=D.reads+k2+n4+n6} C2):=hc6
  have HT6:Hid (∀j,T6 j→j=w.heap.size+1∨W3.heap.size≤j):=fun j hj=>(hT6 j hj).elim (HT4.out j) (fun h=>.inr (by omega))
  have HNT4:Hid (∀j,w.heap.size≤j→j<W3.heap.size→j≠w.heap.size+1→¬(j=bd∨T4 j)):=fun j h1 h2 h3 hc=>by
   rcases hc with h|h
   ·omega
   ·rcases HT4.out j h with h|h<;>omega
  have HB6:Hid (w6.heap[w2.heap.size]? =_):=(hk6.block _ (by omega) (HNT4.out _ (by omega) (by omega) (by omega))).trans ((HKE.out.block _ (by omega) id).trans HB4.out)
  have HKw6:Hid (za (fun j=>j=bd) w w6):=(HKw4.out.trans HKE.out fE).trans hk6 (fun j hj=>by
   rcases hj with h|h
   ·exact .inl h
   ·rcases HT4.out j h with h|h
    ·exact .inr (by omega)
    ·exact .inr (by omega))
  have hz6:=hk6.size
  clear hc6 hT6 hk6
  have p0:w6.cell? ⟨w2.heap.size,0,none⟩=some (.int .i64 (tree:Int)):=cR HB6.out rfl
  have p1:w6.cell? ⟨w2.heap.size,1,none⟩=some (.int .i64 (n:Int)):=cR HB6.out rfl
  have pf:=frozen_of_row w6 w2.heap.size 0 _ _ HB6.out
  go_wp2_with fail
  have HK7:Hid (za (fun j=>j=w2.heap.size) w6 (w6.setCell ⟨w2.heap.size,0,none⟩ (.int .i64 (root':Int)))):=za.setCell (S:=fun j=>j=w2.heap.size) w6 ⟨w2.heap.size,0,none⟩ _ rfl
  generalize (w6.setCell ⟨w2.heap.size,0,none⟩ (.int .i64 (root':Int)))=W7 at*
  have hz7:=HK7.out.size
  have HC7:Hid (Cw W7 (w.heap.size+1) bd S T6 {D with reads:=D.reads+k2+n4+n6} C2):=HC6.out.kept HK7.out (fun j hj e0=>by have:=HSL.out j hj;omega) (fun j hj e0=>by
   rcases HT6.out j hj with h|h<;>omega)
  have HKw7:Hid (za (fun j=>j=bd) w W7):=HKw6.out.trans HK7.out (fun j hj=>.inr (by omega))
  have hfl:=(jp (ps.map zp.at_) C1 m1 HR.out.cln (fun j hj=>by obtain⟨q,hq,rfl⟩:=List.mem_map.1 hj;exact HR.out.range q hq)).2.2
  rw [HR.out.free,List.length_map] at hfl
  have h3:=HR.out.three
  clear p0 p1 pf
  refine(kM W7 (w.heap.size+1) bd S T6 _ C2 HC7.out root' n HR.out.lt (by omega) (by simp only at hfl;omega)).mono ?_
  rintro x w8 ⟨rfl,⟨T8,hc8,hT8⟩,hk8⟩
  have HFT:Hid ((C2.put 1 (zl (zB root' n))).full=false∧(C2.put 1 (zl (zB root' n))).ws.length≤18∧∀k∈(C2.put 1 (zl (zB root' n))).keys,k<D.bs.length):=⟨HR.out.full,HR.out.fits,HR.out.keys⟩
  generalize hC3:C2.put 1 (zl (zB root' n))=C3 at*
  have HC3:Hid (C2.put 1 (zl (zB root' n))=C3):=hC3
  have HC8:Hid (Cw w8 (w.heap.size+1) bd S T8 {D with reads:=D.reads+k2+n4+n6} C3):=hc8
  have HKw8:Hid (za (fun j=>j=bd) w w8):=HKw7.out.trans hk8 (fun j hj=>by
   rcases HT6.out j hj with h|h
   ·exact .inr (by omega)
   ·exact .inr (by omega))
  clear hc8 hT8 hk8 hC3 hfl
  have HCN:Hid ((ys {D with reads:=D.reads+k2+n4+n6} C3.ws).1=true∧yx {D with reads:=D.reads+k2+n4+n6} C3.ws=(true,{D with bs:=vk D.bs C3.ws,reads:=D.reads+k2+n4+n6 })):=fj (D:={D with reads:=D.reads+k2+n4+n6 }) HFU.out HPS0.out (by show 21≤D.bs.length;omega) (fun q hq=>HFT.out.2.2 q.1 (List.mem_map.2 ⟨q,hq,rfl⟩)) HFT.out.2.1
  have HCM:Hid (Calls Tryz.prog 78 #[.pointer (some ⟨bs,0,none⟩),.pointer (some ⟨w.heap.size+1,0,none⟩)] w8 fun e w'=>e=.returned (.int .i64 0)∧qN w8 w' bd S {D with bs:=vk D.bs C3.ws,reads:=D.reads+k2+n4+n6 }):=by
   have h18:=HFT.out.2.1
   have:=dH w8 bs (w.heap.size+1) bd S T8 {D with reads:=D.reads+k2+n4+n6} C3 HC8.out (by rw [HFT.out.1,Bool.false_or,decide_eq_false_iff_not];omega) (fun q hq=>by have:=HFT.out.2.2 q.1 (List.mem_map.2 ⟨q,hq,rfl⟩);omega) (by show zG D.fuse;rw [HFU.out];constructor<;>omega) (by show D.ps.length≤_;rw [HPS0.out];simp) HCN.out.1 (by rw [HCN.out.2])
   rw [HCN.out.2] at this
   exact this
  go_wp2_with fail
  refine HCM.out.mono ?_
  rintro x w9 ⟨rfl,ho9⟩
  have HO9:Hid _:=ho9
  clear ho9
  go_wp2
  refine bodyPost_ret (results_tmp rfl _ _ _) rfl ⟨k2+n4+n6,by omega,by omega,.inr ⟨rfl,rfl,?_⟩⟩
  have h1:=HO9.out
  rw [Int.add_assoc,Int.add_assoc] at h1
  rw [Int.add_assoc,HC3.out]
  exact qN.trans (D1:=D) iL (HKw8.out.mono (fun j hj=>by rw [show j=bd from hj];exact HD.out.bdS)) h1
end prog
namespace prog
open Go.ChangeShapes Go.WideShapes Go.ChangeAt Go.RowKit disk ref
open Go.MuLone
open law (qH zg qG y9 yM)
open keys (zj zd zA zq zs)
theorem YC(w:World)(bs:Nat)(q:Option Nat)(hs:zu w bs 0 q)(key:ByteArray)(num:Int)(hk:key.size≤maxLen)(hkey:zs key.data.toList=false):
 Calls Tryz.prog 31 #[.pointer (some ⟨bs,0,none⟩),.string key,.int .i64 num] w fun e w'=>e=.returned (.int .i64 2)∧zu w' bs 0 q∧za (fun k=>k=bs) w w':=by
 have HS:Hid _:=hs
 have HKY:Hid (zs key.data.toList=false):=hkey
 clear hs hkey
 go_enter_defers Tryz.func31,Tryz.ntmps31
 go_wp2_with (first
  |(go_at_call 47;refine(qu HS.out).mono ?_;rintro e w1 ⟨rfl,hs1,hk1⟩;have HS1:Hid _:=hs1;have HK1:Hid (za (fun k=>k=bs) w w1):=hk1;clear hs1 hk1)
  |(go_at_call 49;refine(keys.qA key w1 hk).mono ?_;rintro e w2 ⟨rfl,hw2⟩;rw [hw2,HKY.out];clear hw2 w2))
 refine leaves_cons (f:= 48) (args:=#[.pointer (some ⟨bs,0,none⟩)]) (by simp) (by simp [go_sem]) ?_
 refine(qt HS1.out).mono ?_
 rintro e u' w2 ⟨rfl,rfl,hs2,hk2⟩
 exact⟨_,results_tmp Tryz.results31 _ _ _,rfl,hs2,HK1.out.trans hk2 iL⟩
theorem J5(w:World)(bs:Nat)(hs:zu w bs 0 none)(key:ByteArray)(num:Int)(hk:key.size≤maxLen)(hkey:zs key.data.toList=true):
 Calls Tryz.prog 31 #[.pointer (some ⟨bs,0,none⟩),.string key,.int .i64 num] w fun e w'=>e=.returned (.int .i64 8)∧zu w' bs 0 none∧za (fun k=>k=bs) w w':=by
 have HS:Hid _:=hs
 have HKY:Hid (zs key.data.toList=true):=hkey
 clear hs hkey
 go_enter_defers Tryz.func31,Tryz.ntmps31
 go_wp2_with (first
  |(go_at_call 47;refine(qu HS.out).mono ?_;rintro e w1 ⟨rfl,hs1,hk1⟩;have HS1:Hid _:=hs1;have HK1:Hid (za (fun k=>k=bs) w w1):=hk1;have c2:w1.cell? ⟨bs,2,none⟩=some (.pointer none):=hs1.c2;clear hs1 hk1)
  |(go_at_call 49;refine(keys.qA key w1 hk).mono ?_;rintro e w2 ⟨rfl,hw2⟩;rw [hw2,HKY.out];clear hw2 w2))
 refine leaves_cons (f:= 48) (args:=#[.pointer (some ⟨bs,0,none⟩)]) (by simp) (by simp [go_sem]) ?_
 refine(qt HS1.out).mono ?_
 rintro e u' w2 ⟨rfl,rfl,hs2,hk2⟩
 exact⟨_,results_tmp Tryz.results31 _ _ _,rfl,hs2,HK1.out.trans hk2 iL⟩
theorem J6(w:World)(bs bd:Nat)(S:Nat→Prop)(D:Dk)(hs:zu w bs 0 (some bd))(hd:zh w bd S D)(hn:¬S bs)(key:ByteArray)(num:Int)(hk:key.size≤maxLen)(hkey:zs key.data.toList=true)(Q:Int→Dk→Prop)
 (hrem:∀w':World,zu w' bs 1 (some bd)→zh w' bd S D→Calls Tryz.prog 53 #[.pointer (some ⟨bs,0,none⟩),.agg #[.string key,.int .i64 num]] w' fun e w''=>∃c D',e=.returned (.int .i64 c)∧qN w' w'' bd S D'∧Q c D'):
 Calls Tryz.prog 31 #[.pointer (some ⟨bs,0,none⟩),.string key,.int .i64 num] w fun e w'=>∃c D',e=.returned (.int .i64 c)∧Q c D'∧(∃S',zh w' bd S' D'∧∀k,S' k→S k∨w.heap.size≤k)∧zu w' bs 0 (some bd)∧za (fun k=>S k∨k=bs) w w':=by
 have HS:Hid _:=hs
 have HD:Hid (zh w bd S D):=hd
 have HKY:Hid (zs key.data.toList=true):=hkey
 have HN:Hid (∀j,S j→j≠bs):=fun j hj e=>hn (by rw [←e];exact hj)
 have HREM:Hid (∀w':World,zu w' bs 1 (some bd)→zh w' bd S D→Calls Tryz.prog 53 #[.pointer (some ⟨bs,0,none⟩),.agg #[.string key,.int .i64 num]] w' fun e w''=>∃c D',e=.returned (.int .i64 c)∧qN w' w'' bd S D'∧Q c D'):=hrem
 have hbs':=hs.lt
 clear hs hd hkey hrem
 go_enter_defers Tryz.func31,Tryz.ntmps31
 go_wp2_with (first
  |(go_at_call 47;refine(qu HS.out).mono ?_;rintro e w1 ⟨rfl,hs1,hk1⟩;have HS1:Hid (zu w1 bs 1 (some bd)):=hs1;have HK1:Hid (za (fun k=>k=bs) w w1):=hk1;have c2:w1.cell? ⟨bs,2,none⟩=some (.pointer (some ⟨bd,0,none⟩)):=hs1.c2;clear hs1 hk1)
  |(go_at_call 49;refine(keys.qA key w1 hk).mono ?_;rintro e w2 ⟨rfl,hw2⟩;rw [hw2,HKY.out];clear hw2 w2)
  |(go_at_call 53;refine(HREM.out _ (by exact HS1.out) (by exact HD.out.kept HK1.out HN.out)).mono ?_;rintro e w3 ⟨c,D',rfl,ho3,hq3⟩;have HO3:Hid (qN w1 w3 bd S D'):=ho3;have HQ3:PLift (Q c D'):=⟨hq3⟩;clear ho3 hq3))
 refine leaves_cons (f:= 48) (args:=#[.pointer (some ⟨bs,0,none⟩)]) (by simp) (by simp [go_sem]) ?_
 obtain⟨⟨S',hd3,hS3⟩,hk3⟩:=HO3.out
 refine(qt (HS1.out.kept hk3 hn)).mono ?_
 rintro e u' w4 ⟨rfl,rfl,hs4,hk4⟩
 have hz:=HK1.out.size
 refine⟨_,results_tmp Tryz.results31 _ _ _,c,D',rfl,HQ3.down,⟨S',hd3.kept hk4 (fun j hj e0=>?_),fun j hj=>?_⟩,hs4,?_⟩
 ·rcases hS3 j hj with h1|h1
  ·exact hn (by rw [←show j=bs from e0];exact h1)
  ·have h2:j=bs:=e0;omega
 ·rcases hS3 j hj with h1|h1
  ·exact .inl h1
  ·exact .inr (by omega)
 ·exact((HK1.out.mono (S':=fun k=>S k∨k=bs) (fun _ h=>.inr h)).trans hk3 (fun _ h=>.inl (.inl h))).trans hk4 (fun _ h=>.inl (.inr h))
end prog
namespace prog
open Go.RowKit disk ref
open law (qH zg yM qG y9)
open keys (zs)
theorem vY.at_none{bs:List (List Value)}{V:qH}{tree n:Nat}{m:List UInt8}{es:List En}{bl:List Nat}{bo:Pl→List zp}(h:vY bs V tree n m es bl bo){key:ByteArray}{num:Int}(hno:∀x∈es,x.pl≠⟨key,num⟩):xM V.vs key num=none:=by
 cases hv:xM V.vs key num with
 |none=>rfl
 |some v=>
  obtain⟨h1,h2,h3⟩:=de hv
  obtain⟨y,hy,rfl⟩:=h.ver h3
  have e1:y.pl.key=key:=h1
  have e2:y.pl.num=num:=h2
  exact absurd (by rw [←e1,←e2]) (hno y hy)
def Vm(D:Dk)(V:qH)(key:ByteArray)(num:Int)(c:Int)(D':Dk):Prop:=
 ∃kk:Int,0≤kk∧kk≤40∧((c=5∧xM V.vs key num=none∧D'={D with reads:=D.reads+kk })∨
  (c=0∧(∃v,xM V.vs key num=some v)∧∃bs',bs'.length=D.bs.length∧vU bs' (V.sub key num)∧D'={D with bs:=bs',reads:=D.reads+kk }))
theorem Vn(w:World)(bs bd:Nat)(S:Nat→Prop)(D:Dk)(hs:zu w bs 1 (some bd))(hd:zh w bd S D)(hn:¬S bs)(hr0:0≤D.reads)(hr1:D.reads≤4611686018427340000)(hps:D.ps=[])(hfu:D.fuse= -1)(h64:64≤D.bs.length)(V:qH)(hV:V.n0≤2305843009213693952)(hrest:vU D.bs V)
 (key:ByteArray) (num:Int):
 Calls Tryz.prog 53 #[.pointer (some ⟨bs,0,none⟩),.agg #[.string key,.int .i64 num]] w fun e w'=>∃c D',e=.returned (.int .i64 c)∧qN w w' bd S D'∧Vm D V key num c D':=by
 obtain⟨tree,n,m,es,bl,bo,R⟩:=hrest
 have hn9:n<4611686018427387904:=by rw [R.n0] at hV;omega
 have hN:=R.few
 have hroot:qQ (D.look 1) tree n:=by have:=R.root;rw [←yp hps] at this;exact this
 have hmap:qg (D.look 2) m:=by have:=R.map;rw [←yp hps] at this;exact this
 have hcln:fD D vH m:=⟨by rw [yi];exact hmap,rfl,List.nodup_nil⟩
 have hfor:qE (fun j=>vH.look D (j:Nat)) tree es bl:=R.forest.congr (fun j hj=>by
  show vH.look D (j:Nat)=_
  rw [yi,yp hps])
 rcases ZY (w.heap.size+1) bd S (fun j=>j=w.heap.size+1) D ⟨key,num⟩ vH m tree es bl hfor (List.nodup_append.1 R.nodup).1 (fun j hj=>by have:=R.range j (List.mem_append_left _ hj);omega) R.len hcln (by show 0<100;omega) with⟨e,root',C1,m1,pb,fb,hR,hcall⟩|⟨hno,hcall⟩
 ·obtain⟨p1,p2,p3⟩:=R.pieces hR.mem
  have hbd:=R.body e hR.mem
  rcases hfree:yc ((bo e.pl).map zp.at_) (C1,m1) with⟨C2,m2⟩
  have A:fL D V tree n m es bl bo ⟨key,num⟩ e root' C1 m1 pb fb C2 m2:=⟨R,hps,h64,hR,hfree,hn9⟩
  obtain⟨hf,h18⟩:=A.fits
  have hep:e.pl.key=key∧e.pl.num=num:=by rw [hR.at_];exact⟨rfl,rfl⟩
  have hrst:Rest D n e root' C1 C2 m1 m2 (bo e.pl):=⟨hR.cln,by have:=hR.few;have h0:vH.ws.length=0:=rfl;omega,hR.lt,hbd.chain.congr (fun q hq=>by
   have hb:=vW (bo:=bo) hR.mem (List.mem_map.2 ⟨q,hq,rfl⟩)
   have hr:=R.range q.at_ (List.mem_append_right _ hb)
   have hnb:q.at_∉bl:=fun hc=>(List.nodup_append.1 R.nodup).2.2 _ hc _ hb rfl
   obtain⟨bl',_,hperm⟩:=hR.tree
   have h1:=hR.shr.look q.at_ (fun hc=>hnb (hR.sub _ hc)) (fun hc=>hnb (hperm.mem_iff.1 (List.mem_append_right _ hc))) (by omega)
   show C1.look D (q.at_:Nat)=_
   rw [h1,yi,yp hps]),p1,hbd.head,p3,fun q hq=>by
   have hb:=vW (bo:=bo) hR.mem (List.mem_map.2 ⟨q,hq,rfl⟩)
   have hr:=R.range q.at_ (List.mem_append_right _ hb)
   omega,hfree,hf,h18,A.klt⟩
  refine(uU w bs bd S D 1 hs hd hn hr0 (by omega) hps hfu h64 hN tree n hroot hn9 ⟨key,num⟩ e root' C1 C2 m1 m2 (bo e.pl) _ true hcall (.inr ⟨rfl,rfl,hrst⟩)).mono ?_
  rintro x w' ⟨kk,hk0,hk1,⟨h,_⟩|⟨_,h1,ho⟩⟩
  ·cases h
  ·obtain⟨bl',hrep⟩:=A.rest
   exact⟨0,_,h1,ho,kk,hk0,hk1,.inr ⟨rfl,⟨_,R.at_yes hR.mem hep.1 hep.2⟩,_,y5 _ _,⟨_,_,_,_,_,_,hrep⟩,rfl⟩⟩
 ·refine(uU w bs bd S D 1 hs hd hn hr0 (by omega) hps hfu h64 hN tree n hroot hn9 ⟨key,num⟩ vX tree vH vH m m [] _ false hcall (.inl ⟨rfl,rfl⟩)).mono ?_
  rintro x w' ⟨kk,hk0,hk1,⟨_,h1,ho⟩|⟨h,_⟩⟩
  ·exact⟨5,_,h1,ho,kk,hk0,hk1,.inl ⟨rfl,R.at_none hno,rfl⟩⟩
  ·cases h
theorem Xz:yM Kb where
 live:=fun w bd bs S D V key num F hk hnum=>by
  have hfu:D.fuse= -1:=F.fuse
  have hs:zu w bs 0 (some bd):=F.sto
  have hd:=F.disk
  have hps:=F.live.ps
  have hrest:vU D.bs V:=F.live.rest
  have hr0:=F.reads0
  have hr1:=F.reads1
  have hbig:=F.live.big
  cases hkey:zs key.data.toList with
  |false=>
   refine(YC w bs (some bd) hs key num hk hkey).mono ?_
   rintro e w' ⟨h1,h2,h3⟩
   exact⟨D,S,2,some bd,h1,vV hd F.apart hfu h2 h3,⟨.inl ⟨by show (2:Int)≠0;decide,rfl,rfl,F.live⟩⟩⟩
  |true=>
   refine(J6 w bs bd S D hs hd F.apart key num hk hkey (Vm D V key num) (fun w' h1 h2=>Vn w' bs bd S D h1 h2 F.apart hr0 (by omega) hps hfu hbig V F.few hrest key num)).mono ?_
   rintro e w' ⟨c,D',h1,⟨kk,hk0,hk1,hq⟩,⟨S',h2,h3⟩,h4,h5⟩
   rcases hq with⟨rfl,hf,rfl⟩|⟨rfl,⟨v,hf⟩,bs',hbl,hrs,rfl⟩
   ·rw [hf]
    exact⟨_,S',5,some bd,h1,⟨h2,h3,h4,h5,by show D.reads≤D.reads+kk;omega,by show D.reads+kk≤D.reads+40;omega,rfl,hfu⟩,⟨.inl ⟨by show (5:Int)≠0;decide,rfl,rfl,⟨hps,hrest,hbig⟩⟩⟩⟩
   ·rw [hf]
    exact⟨_,S',0,some bd,h1,⟨h2,h3,h4,h5,by show D.reads≤D.reads+kk;omega,by show D.reads+kk≤D.reads+40;omega,hbl,hfu⟩,⟨.inr (.inl ⟨rfl,rfl,rfl,⟨hps,hrs,by show 64≤bs'.length;omega⟩⟩)⟩⟩
 shut:=fun w bs key num hs hk=>by
  have hs':zu w bs 0 none:=hs
  cases hkey:zs key.data.toList with
  |false=>exact(YC w bs none hs' key num hk hkey).mono (fun e w' ⟨h1,h2,h3⟩=>⟨h1,h2,h3⟩)
  |true=>exact(J5 w bs hs' key num hk hkey).mono (fun e w' ⟨h1,h2,h3⟩=>⟨h1,h2,h3⟩)
end prog
namespace prog
open Go.RowKit disk ref
open law (qH zg qG y9 yN gJ Z2 qr gF)
open keys (zs)
theorem Q7(p k:ByteArray)(n m:Int):yH p k n m=0∨yH p k n m=2∨yH p k n m=4:=by
 unfold yH
 split
 ·exact .inr (.inl rfl)
 ·split
  ·exact .inr (.inr rfl)
  ·exact .inl rfl
theorem vY.veV{bs:List (List Value)}{V:qH}{tree n:Nat}{m:List UInt8}{es:List En}{bl:List Nat}{bo:Pl→List zp}(h:vY bs V tree n m es bl bo):∀l:List En,(∀x∈l,x∈es)→jE l=qr (l.map (yC bo)):=fun l hl=>by
 unfold jE qr
 rw [List.map_map]
 congr 1
 refine List.map_congr_left (fun x hx=>?_)
 have hb:=(h.body x (hl x hx)).size
 show prog.veV x=Z2 (yC bo x)
 unfold prog.veV Z2 yC
 simp only [hb]
theorem J7:yN Kb where
 live:=fun w bd bs S D V p k n m F hp hk hn hm=>by
  have hfu:D.fuse= -1:=F.fuse
  have hs:zu w bs 0 (some bd):=F.sto
  have hd:=F.disk
  have hps:=F.live.ps
  obtain⟨tree,n0,mm,es,bl,bo,R⟩:=F.live.rest
  have hr0:=F.reads0
  have hr1:=F.reads1
  have live':∀r:Int,Kb.Live {D with reads:=r} V:=fun r=>⟨hps,⟨tree,n0,mm,es,bl,bo,R⟩,F.live.big⟩
  by_cases hc:yH p k n m=0
  ·have hcase:=uz p k n m
   rw [hc] at hcase
   have hroot:qQ (D.look 1) tree n0:=by have:=R.root;rw [←yp hps] at this;exact this
   have hfor:qE (fun j=>D.look (j:Nat)) tree es bl:=R.forest.congr (fun j _=>yp hps j)
   have hlow:∀j∈bl,21≤j:=fun j hj=>(R.range j (List.mem_append_left _ hj)).1
   have hn0:V.n0≤2305843009213693952:=F.few
   have hkey:∀x∈es,x.pl.key≠ByteArray.empty∧x.pl.num<9223372036854775807:=fun x hx=>by
    have h1:=R.low x hx
    refine⟨fun e=>?_,?_⟩
    ·have:=h1.2.2.2
     rw [e] at this
     exact absurd this (by decide)
    ·have:=h1.2.2.1
     have:=R.n0
     omega
   have hls:=ZR R.forest.six.2.2 (yC bo) (fun x=>⟨rfl,rfl⟩) V.vs R.vers p k n hkey
   have hsub:∀x∈ZQ p k n es,x∈es:=fun x hx=>(List.mem_filter.1 ((List.takeWhile_sublist _).subset hx)).1
   refine(Xv w bs bd S D hs hd F.apart hr0 (by omega) tree n0 hroot p k n m hp hk hn.2 hcase es bl hfor R.len hlow (fun x hx=>by
    have h8:=(bT (R.low x hx).2.2.2).2.1
    have h9:x.pl.key.data.toList.length=x.pl.key.size:=by simp
    omega) _ rfl).mono ?_
   rintro e w' ⟨⟨a,c,h1,hown,hfr⟩,h2,⟨r,h3,h4,h5⟩,h6⟩
   rw [hc]
   refine⟨{D with reads:=r},S,_,_,h1,⟨h5,fun _ h=>.inl h,h2,h6.mono (fun j hj=>hj.elim (fun e=>.inl (by rw [e];exact hd.bdS)) .inr),h3,h4,rfl,hfu⟩,live' r,fun _=>⟨_,hls,?_,a,c,?_,?_,?_⟩,fun h=>absurd rfl h,fun j hj hS=>?_⟩
   ·simp
   ·rw [←List.map_take,List.length_map]
   ·rw [←List.map_take,List.length_map,←R.veV _ (fun x hx=>hsub x (List.mem_of_mem_take hx))]
    exact hown
   ·rw [←List.map_take,List.length_map];exact hfr
   ·have:=hfr j hj;have:=hd.lt j hS;omega
  ·refine(dQ w bs (some bd) hs p k n m hp hk _ _ (uz p k n m) (.inl ⟨hc,rfl⟩)).mono ?_
   rintro e w' ⟨h1,h2,h3⟩
   exact⟨D,S,_,_,h1,⟨hd.kept h3 (fun j hj e=>F.apart (by rw [←show j=bs from e];exact hj)),fun _ h=>.inl h,h2,h3.mono (fun _ h=>.inr h),Int.le_refl _,by omega,rfl,hfu⟩,F.live,fun h=>absurd h hc,fun _=>⟨rfl,rfl⟩,fun j hj=>by cases hj⟩
 shut:=fun w bs p k n m hs hp hk=>by
  have hs':zu w bs 0 none:=hs
  have hcc:(yH p k n m≠0∧gF true (yH p k n m)=yH p k n m)∨(yH p k n m=0∧(none:Option Nat)=none∧gF true (yH p k n m)=8):=by
   rcases Q7 p k n m with h|h|h
   ·rw [h];exact .inr ⟨rfl,rfl,rfl⟩
   ·rw [h];exact .inl ⟨by decide,rfl⟩
   ·rw [h];exact .inl ⟨by decide,rfl⟩
  exact dQ w bs none hs' p k n m hp hk _ _ (uz p k n m) hcc
end prog
namespace emptied
open Go.ChangeShapes Go.WideShapes Go.ChangeAt Go.RowKit
open disk ref law keep
theorem own:ownKnob Tryz.prog.godebug=none:=by kernel_rfl
theorem fN:laidOutB Tryz.prog=true:=by kernel_rfl
theorem walk(W:World)(a:Option Addr)(cap:Nat)(ods:List bW)(h:XU W (fun k=>k<W.heap.size) a ods)(hlen:ods.length≤2000000000000)(a1:Option Addr)(c1:Nat)(l1:List Int)(h1:Qh W (fun k=>k<W.heap.size) a1 l1)(hl1:l1.length≤140737488355326)(n2:Int)(h2:zG n2):
 Calls Tryz.prog 11 #[.slice a ods.length cap,.slice a1 l1.length c1,.int .i64 n2] W fun e w'=>e=.returned (.bool true)∧za (fun _=>False) W w':=
 cC prog.Kb prog.J4 prog.KF prog.Xz prog.J7 (fun f hf=>by have h1:f= -1:=hf;omega) W (fun k=>k<W.heap.size) (fun _ h=>h) a cap ods h hlen a1 c1 l1 h1 hl1 n2 h2
set_option maxRecDepth 100000 in
theorem J8(H:Type)(enc:TypeId×Value→H)(W:World)(base:Nat)(args:Array Value)(ds gs:List (DataW H))(before:List MemPlace)
 (hval:∀(j:Nat) t v,Tryz.f11.params[j]? =some t→args[j]? =some v→Value.okWide Tryz.prog W .any base t v)
 (hW:DataW.Whole enc Tryz.prog Tryz.f11.params.toList Rows.emptiedSpec.vars false W args.toList ds gs before)
 (hreach:(DataW.weightsEach Tryz.prog (Tryz.f11.params.toList++(OpenSpec.ofChange Rows.emptiedSpec).bare.plain.varTypes Tryz.prog) (ds++gs)).all (· ≤reachBytes)=true):
 Calls Tryz.prog 11 args W fun e W'=>∃v,e=.returned v∧Rows.emptiedSpec.post enc Tryz.prog Tryz.f11 false true false false W args v W':=by
 have hW':=hW
 have hlt:=fun p hp=>hW.lt p hp
 obtain⟨p,q,hA0,hV,rfl,hfz,hnd⟩:=hW
 have hA:DataW.TrodAll enc Tryz.prog W 0 (fun _=>true) true Tryz.f11.params.toList args.toList ds p:=hA0
 rw [Tryz.params11] at hA hval hreach
 obtain⟨v0,vs0,d0,ds0,p0,q0,hargs,rfl,rfl,t0,r0⟩:=trodAll_cons hA
 obtain⟨v1,vs1,d1,ds1,p1,q1,rfl,rfl,rfl,t1,r1⟩:=trodAll_cons r0
 obtain⟨v2,vs2,d2,ds2,p2,q2,rfl,rfl,rfl,t2,r2⟩:=trodAll_cons r1
 obtain⟨rfl,rfl,rfl⟩:=trodAll_nil r2
 obtain rfl:args=#[v0,v1,v2]:=by cases args;simp_all
 obtain⟨rfl,rfl⟩:=trodVars_none hV
 obtain⟨a0,len0,c0,rfl⟩:=okWide_slice Tryz.underlying26 (hval 0 26 v0 rfl rfl)
 obtain⟨a1,len1,c1,rfl⟩:=okWide_slice Tryz.underlying24 (hval 1 24 v1 rfl rfl)
 obtain⟨n2,rfl⟩:=okWide_int Tryz.underlying3 (hval 2 3 v2 rfl rfl)
 have u0:=t0
 obtain⟨fuel0,hf0⟩:=t0
 have hw0:(d0.weights Tryz.prog 26).all (· ≤reachBytes)=true:=List.all_eq_true.2 (fun n hn=>List.all_eq_true.1 hreach n (DataW.weights_mem_each (j:=0) rfl rfl n hn))
 obtain⟨ods,rfl,hscr,hl⟩:=XZ hf0 hw0
 have u1:=t1
 obtain⟨fuel1,hf1⟩:=t1
 have hw1:(d1.weights Tryz.prog 24).all (· ≤reachBytes)=true:=List.all_eq_true.2 (fun n hn=>List.all_eq_true.1 hreach n (DataW.weights_mem_each (j:=1) rfl rfl n hn))
 obtain⟨l1,e1,b1,z1⟩:=open_ints hf1 hw1
 subst e1
 have u2:=t2
 obtain⟨fuel2,hf2⟩:=t2
 obtain⟨k2,e2,ok2⟩:=jO Tryz.underlying3 hf2
 obtain rfl:n2=k2:=by injection e2 with e;injection e
 clear hA0
 simp only [List.append_nil] at hW' hlt
 refine(walk W a0 c0 ods hscr hl a1 c1 l1 b1 z1 n2 ok2).mono fun e W' ⟨he,hk⟩=>?_
 subst he
 have bel:Below W.heap.size W W':=hk.below fE (Nat.le_refl _)
 have hsame:∀x∈p0++(p1++(p2)),W.sameAt W' x:=fun x hx=>by
  have hb:=hlt x hx
  cases x with
  |cell b o=>exact World.cell?_of_block (w:=W) (bel.block b hb)
  |map b=>exact bel.block b hb
 refine⟨_,rfl,[d0,d1,d2],[],p0++(p1++(p2)),[],p0++(p1++(p2)),[],hW',?_,?_,rfl,bel.frame _,fun h=>by cases h⟩
 ·exact trodAll_mk1 (shut_bool Tryz.underlying4 _)
 ·exact trodAll_mk3 (WideElems.Trod_stays (P:=Tryz.prog) fN (by kernel_rfl) (of_decide_eq_true (by kernel_rfl)) u0 (fun x hx=>hsame x (List.mem_append_left _ hx)) (fun x hx=>by simpa using hlt x (List.mem_append_left _ hx))) (WideElems.Trod_stays (P:=Tryz.prog) fN (by kernel_rfl) (of_decide_eq_true (by kernel_rfl)) u1 (fun x hx=>hsame x (List.mem_append_right _ (List.mem_append_left _ hx))) (fun x hx=>by simpa using hlt x (List.mem_append_right _ (List.mem_append_left _ hx)))) (WideElems.Trod_stays (P:=Tryz.prog) fN (by kernel_rfl) (of_decide_eq_true (by kernel_rfl)) u2 (fun x hx=>hsame x (List.mem_append_right _ (List.mem_append_right _ hx))) (fun x hx=>by simpa using hlt x (List.mem_append_right _ (List.mem_append_right _ hx))))
noncomputable def kC(os:Os):World:=
 let w0:=World.holding Tryz.prog os ⟨#[],#[],[]⟩
 let put (h:Array Obj) (g:Nat) (cs:Array Value):Array Obj:=h.modify g fun
  |.cells _ t frozen=>.cells cs t frozen
  |o=>o
 let h1:=put w0.heap 1 (Lib.firstTab.map fun z=>Value.int .u8 z).toArray
 let h2:=put h1 2 ((List.range 16).flatMap fun i=>[Value.int .u8 (Lib.accLo i),Value.int .u8 (Lib.accHi i)]).toArray
 {w0 with heap:=h2}
theorem J9(os:Os)(args:Array Value):laidMet Tryz.prog Rows.emptiedRow.laid ((kC os).forCall (fun _ _=>0) ⟨#[],args,[]⟩).memory:=
 (LaidIn.of_run (l:=[("unicode/utf8.acceptRanges",Rows.laid_unicode_utf8_acceptRanges),("unicode/utf8.first",Rows.laid_unicode_utf8_first)]) [2,1] 8 (by kernel_rfl) (by kernel_rfl) (by kernel_rfl) (by kernel_rfl)).met
theorem Z1(os:Os){H:Type}(enc:TypeId×Value→H):
 (OpenSpec.ofChange Rows.emptiedSpec).preRow enc Tryz.prog Tryz.f11 Rows.emptiedRow.domain false Rows.emptiedRow.laid ((kC os).forCall (fun _ _=>0) ⟨#[],#[.slice none 0 0,.slice none 0 0,.int .i64 0],[]⟩).memory #[.slice none 0 0,.slice none 0 0,.int .i64 0]:=by
 have hw:(DataW.whole enc Tryz.prog ((kC os).forCall (fun _ _=>0) ⟨#[],#[.slice none 0 0,.slice none 0 0,.int .i64 0],[]⟩).memory Tryz.f11.params.toList Rows.emptiedSpec.vars false #[Value.slice none 0 0,Value.slice none 0 0,Value.int .i64 0].toList 8).map (fun x=>(x.1,x.2.1))=
  some ([.nil,.nil,.lit (.int .i64 0)],[]):=by kernel_rfl
 obtain⟨⟨x1,x2,x3⟩,hx,hx1⟩:=Option.map_eq_some_iff.1 hw
 simp only [Prod.mk.injEq] at hx1
 obtain⟨rfl,rfl⟩:=hx1
 exact OpenSpec.preRow_of_cond 8 hx (by kernel_rfl) (fun k hk=>by cases hk) (by kernel_rfl) (J9 os _)
set_option maxRecDepth 100000 in
theorem KY(os:Os)(started:os.Started)(H:Type)(enc:TypeId×Value→H)(F:Stop.Interp):
 ReturnsInHanded {} Tryz.checked os 11 .any ((OpenSpec.ofChange Rows.emptiedSpec).preRow enc Tryz.prog Tryz.f11 Rows.emptiedRow.domain false Rows.emptiedRow.laid) (((OpenSpec.ofChange Rows.emptiedSpec).at F).post enc Tryz.prog Tryz.f11 false true false false):=by
 refine returnsInHanded_of_row (C:=Tryz.checked) (s:=OpenSpec.ofChange Rows.emptiedSpec) own started (by kernel_rfl) Tryz.func11
  (witness_row_at (enc:=enc) (C:=Tryz.checked) false (kC os) #[.slice none 0 0,.slice none 0 0,.int .i64 0] rfl (by kernel_rfl) (by kernel_rfl) (by kernel_rfl) (Z1 os enc)) ?_
 intro W base args ds gs before hval hW _ _ hreach hL _ _
 exact J8 H enc W base args ds gs before hval hW hreach
theorem VE:Rows.EmptiedSaid:=
 OpenClaim.holds_of_cond 11 Tryz.f11 rfl rfl rfl rfl rfl rfl rfl ⟨rfl,rfl,rfl,rfl,rfl⟩ rfl rfl rfl rfl rfl (by kernel_rfl) Tryz.func11 (by kernel_rfl)
  (of_decide_eq_true (by kernel_rfl)) (by unfold Func.isWrapper;first|(rw [if_pos (by decide+kernel)];kernel_rfl)|(rw [if_neg (by decide+kernel)];exact⟨rfl,rfl⟩))
  (fun os started H enc _ F=>by rw [OpenClaim.pre_eq_preRow];exact KY os started H enc F)
theorem plain(f:FuncId)(fn:Func)(hf:Tryz.pinned.checked.prog.funcNamed "cairn/cairnkeep.Emptied" =some f)(hfn:Tryz.pinned.checked.prog.funcs[f]? =some fn):
 false=Tryz.pinned.checked.prog.looks []∧∀(j:Nat) t,fn.params[j]? =some t→Tryz.pinned.checked.prog.wantsStandIn t=false:=by
 obtain rfl:f= 11:=Option.some.inj ((show Tryz.prog.funcNamed "cairn/cairnkeep.Emptied" =some 11 by kernel_rfl).symm.trans hf) |>.symm
 obtain rfl:fn=Tryz.f11:=(Option.some.inj (Tryz.func11.symm.trans hfn)).symm
 refine⟨by kernel_rfl,fun j t ht=>?_⟩
 rw [Tryz.params11] at ht
 have ht':t= 26∨t= 24∨t= 3:=by simpa using Array.mem_of_getElem? ht
 rcases ht' with rfl|rfl|rfl
 ·exact(show Tryz.prog.wantsStandIn 26=false by kernel_rfl)
 ·exact(show Tryz.prog.wantsStandIn 24=false by kernel_rfl)
 ·exact(show Tryz.prog.wantsStandIn 3=false by kernel_rfl)
theorem card:Rows.EmptiedCardSaid:=
 Claim7.holds_tied_plain_at .later [] _ _ _ _ VE (fun _ h=>by cases h) (by kernel_rfl) (fun _ h=>by cases h) emptied_row_tie rfl ⟨rfl,rfl⟩ (by kernel_rfl) rfl plain (by kernel_rfl)
end emptied
theorem emptied_holds:Rows.EmptiedCardSaid:=emptied.card
end Go.Proofs.YtcoengihaobddaaGreatDoor

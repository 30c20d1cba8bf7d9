/- Part 14 of 34 of a proof: Top1, Top2 -/
import Derived.Test.YtcoengihaobddaaGreatDoorJk13
import Derived.Deep.Slices
import Derived.ChangeArms
import Derived.SizedLaws
set_option maxHeartbeats 8000000
set_option linter.unusedVariables false
set_option linter.unusedSimpArgs false
set_option maxRecDepth 8000
namespace Go.Proofs.YtcoengihaobddaaGreatDoor
namespace law
open Go.RowKit disk ref book Go.Deep
theorem Kt:Tryz.prog.cellsOf 5=1:=by kernel_rfl
theorem Xc:Tryz.prog.cellsOf 4=1:=by kernel_rfl
theorem gN:Tryz.prog.cellsOf 3=1:=by kernel_rfl
theorem Jj:Tryz.prog.cellsOf 35=1:=by kernel_rfl
theorem QA:Tryz.prog.cellsOf 39=1:=by kernel_rfl
theorem Ku:Tryz.prog.bytesOf 5=1:=by kernel_rfl
theorem Xd:Tryz.prog.bytesOf 4=1:=by kernel_rfl
theorem cJ{w:World}{a:Addr}{v:Value}(h:w.cell? a=some v):a.block<w.heap.size:=by
 unfold World.cell? at h
 cases hb:w.heap[a.block]? with
 |none=>rw [hb] at h;simp at h
 |some o=>exact(lT hb)
section
variable {H:Type} {enc:TypeId×Value→H} {W:World} {fuel:Nat} {cs:List Value} {x:DataW H×List MemPlace}
theorem cK{a:Addr}{m:Nat}{V:Nat→Value}(h:∀i,i<m→W.cell? (a.add i)=some (V i))(hm:0<m):∃b o,a=⟨b,o,none⟩∧b<W.heap.size∧∀i,i<m→W.cell? ⟨b,o+i,none⟩=some (V i):=by
 obtain⟨b,o,sp⟩:=a
 have h0:=h 0 hm
 have hs:sp=none:=by simpa [Addr.add] using World.cell?_spot h0
 subst hs
 refine⟨b,o,rfl,?_,fun i hi=>?_⟩
 ·have:=cJ h0;simpa [Addr.add] using this
 ·have:=h i hi;rw [Addr.add_mid] at this;exact this
theorem Jk(h:DataW.trod enc Tryz.prog W 0 (fun _=>true) true fuel 35 cs=some x):∃a l cap,cs=[.slice a l.length cap]∧zv W (fun k=>k<W.heap.size) a l∧(l.length=0∨∃el sp,x.1=.slice el sp∧el.length=l.length)∧l.length≤cap:=by
 rcases open_slice1 Tryz.underlying35 Kt h with⟨rfl,rfl⟩|⟨a,len,cap,m,n,V,D,Pl,rfl,_,hl,hm,hmm,rfl,hx⟩
 ·exact⟨none,[],0,rfl,.inl rfl,.inl rfl,Nat.le_refl _⟩
 ·have hmc:len≤m:=by rw [hmm];simpa using hl
  obtain⟨z,hz⟩:=choose_lt (α:=Nat) (n:=m) (p:=fun i k=>V i=.int .u8 (k:Int)∧k<256) (fun i hi=>by
   obtain⟨k,h1,_,h3⟩:=DataW.trod_int Tryz.underlying5 (hx i hi).2
   simp only [List.cons.injEq,and_true] at h1
   have h4:0≤k∧k<256:=by
    have h5:IntKind.u8.min≤k∧k≤IntKind.u8.max:=by simpa only [Lit.wf,Bool.and_eq_true,decide_eq_true_eq] using h3
    have h6:IntKind.u8.min=0:=by decide
    have h7:IntKind.u8.max=255:=by decide
    omega
   exact⟨k.toNat,by rw [h1];congr 1;omega,by omega⟩)
  refine⟨some a,(List.range len).map fun i=>UInt8.ofNat (z i),cap,by simp,?_,.inr ⟨_,_,rfl,by simp⟩,by simpa using hl⟩
  by_cases h0:len=0
  ·subst h0;exact .inl rfl
  ·obtain⟨b,o,rfl,hb,hc⟩:=cK (fun i hi=>(hx i hi).1) (by omega:0<m)
   refine .inr ⟨b,o,rfl,hb,hb,fun j hj=>?_⟩
   have hj':j<len:=by simpa using hj
   rw [hc j (by omega),(hz j (by omega)).1]
   have:=(hz j (by omega)).2
   simp
   omega
theorem QB(h:DataW.trod enc Tryz.prog W 0 (fun _=>true) true fuel 39 cs=some x):∃a ks cap,cs=[.slice a (ks:List Bool).length cap]∧(∀j,j<ks.length→∃kb ko,a=some ⟨kb,ko,none⟩∧kb<W.heap.size∧kb<W.heap.size∧W.cell? ⟨kb,ko+j,none⟩=some (.bool (ks.getD j false)))∧(ks.length=0∨∃el sp,x.1=.slice el sp∧el.length=ks.length):=by
 rcases open_slice1 Tryz.underlying39 Xc h with⟨rfl,rfl⟩|⟨a,len,cap,m,n,V,D,Pl,rfl,_,hl,hm,hmm,rfl,hx⟩
 ·exact⟨none,[],0,rfl,fun j hj=>by simp at hj,.inl rfl⟩
 ·have hmc:len≤m:=by rw [hmm];simpa using hl
  obtain⟨z,hz⟩:=choose_lt (α:=Bool) (n:=m) (p:=fun i k=>V i=.bool k) (fun i hi=>by
   obtain⟨k,h1,_⟩:=DataW.trod_bool Tryz.underlying4 (hx i hi).2
   simp only [List.cons.injEq,and_true] at h1
   exact⟨k,h1⟩)
  refine⟨some a,(List.range len).map z,cap,by simp,fun j hj=>?_,.inr ⟨_,_,rfl,by simp⟩⟩
  have hj':j<len:=by simpa using hj
  obtain⟨b,o,rfl,hb,hc⟩:=cK (fun i hi=>(hx i hi).1) (by omega:0<m)
  refine⟨b,o,rfl,hb,hb,?_⟩
  rw [hc j (by omega),hz j (by omega)]
  simp [hj']
theorem gO{t:TypeId}(ht:Tryz.prog.underlying t=some (.int .i64))(h:DataW.trod enc Tryz.prog W 0 (fun _=>true) true fuel t cs=some x):∃k,cs=[.int .i64 k]∧zD k:=by
 obtain⟨k,h1,_,h3⟩:=DataW.trod_int ht h
 refine⟨k,h1,?_⟩
 have h5:IntKind.i64.min≤k∧k≤IntKind.i64.max:=by simpa only [Lit.wf,Bool.and_eq_true,decide_eq_true_eq] using h3
 have h6:IntKind.i64.min= -9223372036854775808:=by decide
 have h7:IntKind.i64.max=9223372036854775807:=by decide
 unfold zD
 omega
theorem uL{H:Type}{P:Program}{e:TypeId}{n:Nat}:∀(l:List (DataW H)),∀d∈l,n∈d.weights P e→n∈DataW.weightsAll P e l
 |d0::l,d,hd,hn=>by
  unfold DataW.weightsAll
  rcases List.mem_cons.1 hd with rfl|hd
  ·exact List.mem_append_left _ hn
  ·exact List.mem_append_right _ (uL l d hd hn)
end
end law
namespace keep
open Go.RowKit disk ref book Go.Deep law
theorem Yw:Tryz.prog.cellsOf 41=5:=by kernel_rfl
theorem Kv:Tryz.prog.bytesOf 41=72:=by kernel_rfl
section
variable {H:Type} {enc:TypeId×Value→H} {W:World} {fuel:Nat} {cs:List Value} {x:DataW H×List MemPlace}
theorem Kw(h:DataW.trod enc Tryz.prog W 0 (fun _=>true) true fuel 41 cs=some x)(hw:(x.1.weights Tryz.prog 41).all (· ≤reachBytes)=true):∃o:cG,cs=o.cells∧o.Ok W (fun k=>k<W.heap.size):=by
 obtain⟨xs,n,rfl,hxx,hlen,hxl,hf⟩:=DataW.trod_struct Tryz.underlying41 h
 rw [Yw] at hlen
 match cs,hlen with
 |[c0,c1,c2,c3,c4],_=>
  match xs,hxl with
  |[x0,x1,x2,x3,x4],_=>
   have f0:DataW.trod enc Tryz.prog W 0 (fun _=>true) true n 3 [c0]=some x0:=by
    have h1:DataW.trod enc Tryz.prog W 0 (fun _=>true) true n 3 (List.take (Tryz.prog.cellsOf 3) (List.drop 0 [c0,c1,c2,c3,c4]))=some x0:=hf 0 _ rfl
    rw [gN] at h1
    exact h1
   have f1:DataW.trod enc Tryz.prog W 0 (fun _=>true) true n 3 [c1]=some x1:=by
    have h1:DataW.trod enc Tryz.prog W 0 (fun _=>true) true n 3 (List.take (Tryz.prog.cellsOf 3) (List.drop 1 [c0,c1,c2,c3,c4]))=some x1:=hf 1 _ rfl
    rw [gN] at h1
    exact h1
   have f2:DataW.trod enc Tryz.prog W 0 (fun _=>true) true n 35 [c2]=some x2:=by
    have h1:DataW.trod enc Tryz.prog W 0 (fun _=>true) true n 35 (List.take (Tryz.prog.cellsOf 35) (List.drop 2 [c0,c1,c2,c3,c4]))=some x2:=hf 2 _ rfl
    rw [Jj] at h1
    exact h1
   have f3:DataW.trod enc Tryz.prog W 0 (fun _=>true) true n 3 [c3]=some x3:=by
    have h1:DataW.trod enc Tryz.prog W 0 (fun _=>true) true n 3 (List.take (Tryz.prog.cellsOf 3) (List.drop 3 [c0,c1,c2,c3,c4]))=some x3:=hf 3 _ rfl
    rw [gN] at h1
    exact h1
   have f4:DataW.trod enc Tryz.prog W 0 (fun _=>true) true n 39 [c4]=some x4:=by
    have h1:DataW.trod enc Tryz.prog W 0 (fun _=>true) true n 39 (List.take (Tryz.prog.cellsOf 39) (List.drop 4 [c0,c1,c2,c3,c4]))=some x4:=hf 4 _ rfl
    rw [QA] at h1
    exact h1
   clear hf h
   obtain⟨k0,e0,g0⟩:=gO Tryz.underlying3 f0
   obtain⟨k1,e1,g1⟩:=gO Tryz.underlying3 f1
   obtain⟨a6,l6,q6,e6,g6,w6,n6⟩:=Jk f2
   obtain⟨k3,e3,g3⟩:=gO Tryz.underlying3 f3
   obtain⟨a7,l7,q7,e7,g7,w7⟩:=QB f4
   simp only [List.cons.injEq,and_true] at e0 e1 e3 e6 e7
   subst e0 e1 e3 e6 e7
   rw [hxx] at hw
   have hw':(DataW.weightsEach Tryz.prog [3, 3, 35, 3, 39] [x0.1,x1.1,x2.1,x3.1,x4.1]).all (· ≤reachBytes)=true:=by
    have e:DataW.weights Tryz.prog 41 (.agg [x0.1,x1.1,x2.1,x3.1,x4.1])=DataW.weightsEach Tryz.prog [3, 3, 35, 3, 39] [x0.1,x1.1,x2.1,x3.1,x4.1]:=by
     unfold DataW.weights
     rw [Tryz.underlying41]
     rfl
    rw [←e]
    exact hw
   have h47:reachBytes=140737488351232:=by decide
   have hr6:l6.length≤140737488355326:=by
    rcases w6 with h|⟨el,sp,h,hl⟩
    ·omega
    ·have:=sized_slice hw' (j:=2) (t:= 35) rfl (by rw [←h];rfl) Tryz.underlying35
     rw [Ku] at this
     omega
   have hr7:l7.length≤140737488355326:=by
    rcases w7 with h|⟨el,sp,h,hl⟩
    ·omega
    ·have:=sized_slice hw' (j:=4) (t:= 39) rfl (by rw [←h];rfl) Tryz.underlying39
     rw [Xd] at this
     omega
   exact⟨⟨k0,k1,a6,l6,q6,k3,a7,l7,q7⟩,rfl,g0,g1,g3,g6,hr6,n6,hr7,g7⟩
theorem Jl{a0:Option Addr}{len cap:Nat}(h:DataW.trod enc Tryz.prog W 0 (fun _=>true) true fuel 26 [.slice a0 len cap]=some x)(hw:(x.1.weights Tryz.prog 26).all (· ≤reachBytes)=true):∃ods:List cG,ods.length=len∧KX W (fun k=>k<W.heap.size) a0 ods∧ods.length≤2000000000000:=by
 rcases open_slice Tryz.underlying26 h with⟨hc,rfl⟩|⟨a,len',cap',m,n,D,Pl,hc,_,hl,hm,hmm,rfl,hx⟩
 ·simp only [List.cons.injEq,Value.slice.injEq,and_true] at hc
  obtain⟨rfl,rfl,rfl⟩:=hc
  exact⟨[],rfl,⟨fun i hi=>by simp at hi,fun i hi=>by simp at hi⟩,by simp⟩
 ·simp only [List.cons.injEq,Value.slice.injEq,and_true] at hc
  obtain⟨rfl,rfl,rfl⟩:=hc
  have hmc:len≤m:=by rw [hmm];simpa using hl
  have hsl:(((List.range len).map D).length+((List.range (m-len)).map fun j=>D (len+j)).length)*Tryz.prog.bytesOf 41≤reachBytes∧∀d∈(List.range len).map D,(d.weights Tryz.prog 41).all (· ≤reachBytes)=true:=by
   unfold DataW.weights at hw
   rw [Tryz.underlying26] at hw
   simp only [List.all_cons,List.all_append,Bool.and_eq_true,decide_eq_true_eq] at hw
   refine⟨hw.1,fun d hd=>List.all_eq_true.2 (fun k hk=>?_)⟩
   exact List.all_eq_true.1 hw.2.1 k (uL _ d hd hk)
  obtain⟨hb,hwe⟩:=hsl
  rw [Kv,List.length_map,List.length_map,List.length_range,List.length_range] at hb
  have h47:reachBytes=140737488351232:=by decide
  obtain⟨g,hg⟩:=choose_lt (α:=Option cG) (n:=len) (p:=fun i o=>∃od:cG,o=some od∧W.cells? 0 (a.add (i*5)) 5=some od.cells∧od.Ok W (fun k=>k<W.heap.size)) (fun i hi=>by
   obtain⟨cs',h1,h2⟩:=hx i (by omega)
   rw [Yw] at h1
   obtain⟨od,rfl,hok⟩:=Kw h2 (hwe _ (List.mem_map.2 ⟨i,List.mem_range.2 hi,rfl⟩))
   exact⟨some od,od,rfl,h1,hok⟩)
  let dflt:cG:=⟨0,0,none,[],0,0,none,[],0⟩
  refine⟨(List.range len).map fun i=>(g i).getD dflt,by simp,⟨fun i hi=>?_,fun i hi=>?_⟩,by simp;omega⟩
  ·have hi':i<len:=by simpa using hi
   obtain⟨od,e1,e2,e3⟩:=hg i hi'
   have hc0:=(World.cells?_some e2).2.2
   obtain⟨b,o,sp⟩:=a
   have hs0:W.cell? (((⟨b,o,sp⟩:Addr).add (i*5)).add 0)=od.cells[0]? :=hc0 0 (by omega)
   have hsp:sp=none:=by
    obtain⟨od0,_,e20,_⟩:=hg 0 (by omega)
    have h1:W.cell? (((⟨b,o,sp⟩:Addr).add (0*5)).add 0)=some (.int .i64 od0.key):=(World.cells?_some e20).2.2 0 (by omega)
    have h2:=World.cell?_spot h1
    simpa [Addr.add] using h2
   subst hsp
   have hbl:b<W.heap.size:=by
    have h1:W.cell? (((⟨b,o,none⟩:Addr).add (i*5)).add 0)=some (.int .i64 od.key):=hs0
    rw [add_add,Addr.add_mid] at h1
    exact cJ h1
   refine⟨b,o,rfl,hbl,hbl,fun j v hv=>?_⟩
   have hv':od.cells[j]? =some v:=by
    rw [List.getElem_map,List.getElem_range,e1] at hv
    exact hv
   have hj:j<5:=by have:=(List.getElem?_eq_some_iff.1 hv').1;simpa [cG.cells] using this
   have h1:=hc0 j hj
   rw [add_add,Addr.add_mid,hv'] at h1
   rw [Nat.add_assoc]
   exact h1
  ·have hi':i<len:=by simpa using hi
   obtain⟨od,e1,e2,e3⟩:=hg i hi'
   rw [List.getElem_map,List.getElem_range,e1]
   exact e3
end
end keep
end Go.Proofs.YtcoengihaobddaaGreatDoor

/- Part 2 of 34 of a proof: Disk3, Disk4, Ref1, Disk3b, Disk5, Disk6, Disk7, Disk8 -/
import Derived.Test.YtcoengihaobddaaGreatDoorJk01
import Derived.Deep.WholeRow
import Derived.Deep.CutRange
import Derived.Deep.QuietTactic
import Derived.BigQuiet
import Derived.Deep.RegionLaw
import Derived.Deep.DrawnRows
import Derived.Deep.RegionHeld3
set_option maxHeartbeats 8000000
set_option linter.unusedVariables false
set_option linter.unusedSimpArgs false
set_option maxRecDepth 8000
namespace Go.Proofs.YtcoengihaobddaaGreatDoor
namespace disk
open Go.ChangeShapes Go.WideShapes Go.ChangeAt Go.RowKit
def qU:List Value:=.int .i64 0::zT
theorem Tryz.infoWrite:(Tryz.prog.info? 133).map (fun i=>(i.zero,i.size,i.bytes))=some (some (.agg qU.toArray),129,136):=by kernel_rfl
theorem zV{t:TypeId}{v:Value}{n b:Nat}(h:(Tryz.prog.info? t).map (fun i=>(i.zero,i.size,i.bytes))=some (some v,n,b)):∀w,(zeroValue t).run Tryz.prog w=.ok v w:=by
 obtain⟨i,hi,hz,_,_⟩:=info_parts h
 intro w
 simp [zeroValue,typeInfo,hi,hz]
theorem zS{t:TypeId}{v:Value}{n b:Nat}(h:(Tryz.prog.info? t).map (fun i=>(i.zero,i.size,i.bytes))=some (some v,n,b)):(Tryz.prog.info? t).map (·.size)=some n:=by
 obtain⟨i,hi,_,hs,_⟩:=info_parts h
 simp [hi,hs]
def yx(i:Nat)(ps:List (Nat×List Value))(b:List Value):List Value:=ps.foldl (fun b p=>if p.1=i then p.2 else b) b
def Dk.look(D:Dk)(a:Int):List Value:=if 0≤a∧a<D.bs.length then yx a.toNat D.ps (D.bs.getD a.toNat []) else zT
theorem zi.row{w:World}{bd:Nat}{S:Nat→Prop}{D:Dk}{ba pa:Option Addr}{bc pc:Nat}(h:zi w bd S D ba pa bc pc)(hn:0<D.bs.length):∃g,ba=some ⟨g,0,none⟩:=by
 rcases h.rows.2 with⟨_,h0⟩|⟨g,cap,cur,hv,_⟩
 ·omega
 ·cases hv;exact⟨g,rfl⟩
theorem zi.prow{w:World}{bd:Nat}{S:Nat→Prop}{D:Dk}{ba pa:Option Addr}{bc pc:Nat}(h:zi w bd S D ba pa bc pc)(hn:0<D.ps.length):∃g,pa=some ⟨g,0,none⟩:=by
 rcases h.pend.2 with⟨_,h0⟩|⟨g,cap,cur,hv,_⟩
 ·omega
 ·cases hv;exact⟨g,rfl⟩
theorem zg{P:Program}{ops:Array Oper}{rest:List Oper}{op:Oper}{a:Act}{W:World}{Q:Exit→Act→World→Prop}(hgd:op.guard=none)(ty:TypeId)(x y:Operand)(ho:op.op=.store ty x y)
 (n:Nat) (c:Array Value) (cs:List Value) (hn:n=W.heap.size) (hx:a.eval x=.pointer (some ⟨n,0,none⟩)) (hy:a.eval y=.agg cs.toArray)
 (hi:(P.info? ty).map (·.size)=some cs.length) (hc:c.size=cs.length) (h1:∀v∈cs,v.oneCell'=true)
 (h:wpList P ops Q rest (a.put op.dst undef) (W.alloc (.cells cs.toArray ty))):wpList P ops Q (op::rest) a (W.alloc (.cells c ty)):=by
 subst hn
 refine wpList_plain hgd fun _ hK=>?_
 unfold Oper.wp execOp
 simp only [ho,hx,hy,run_storeAt_new (P:=P) W ty c cs.toArray (by simpa using hi) (by simpa using hc) (all_oneCell_toArray h1),Sem.run_bind,Result.andThen_ok,Sem.run_pure]
 exact hK _ _ h
structure xR (w wr:World) (bd:Nat) (S:Nat→Prop) (D:Dk) (ba pa:Option Addr) (bc pc:Nat) (Zb cur:List Value):Prop where
 disk:zi wr bd S D ba pa bc pc
 kept:Kept (fun k=>k=bd) w wr
 resb:wr.heap[w.heap.size]? =some (.cells Zb.toArray 131 (0,0))
 curb:wr.heap[w.heap.size+1]? =some (.cells cur.toArray 131 (0,0))
theorem xR.lt{w wr:World}{bd:Nat}{S:Nat→Prop}{D:Dk}{ba pa:Option Addr}{bc pc:Nat}{Zb cur:List Value}(h:xR w wr bd S D ba pa bc pc Zb cur):w.heap.size+1<wr.heap.size:=
 (lT h.curb)
theorem xR.alloc{w wr:World}{bd:Nat}{S:Nat→Prop}{D:Dk}{ba pa:Option Addr}{bc pc:Nat}{Zb cur:List Value}(h:xR w wr bd S D ba pa bc pc Zb cur)(o:Obj):xR w (wr.alloc o) bd S D ba pa bc pc Zb cur:=by
 have hl:=h.lt
 refine⟨h.disk.kept (Kept.alloc (fun _=>False) wr o) nF,h.kept.trans (Kept.alloc _ wr o) iL,?_,?_⟩
 ·rw [Below.heap_alloc wr o _ (by omega)];exact h.resb
 ·rw [Below.heap_alloc wr o _ hl];exact h.curb
theorem xR.set{w wr:World}{bd:Nat}{S:Nat→Prop}{D:Dk}{ba pa:Option Addr}{bc pc:Nat}{Zb cur:List Value}(h:xR w wr bd S D ba pa bc pc Zb cur)(hS:∀k,S k→k<w.heap.size)
 (cs:List Value) (hl:cur.length=cs.length):xR w (wr.setCells (w.heap.size+1) 0 cs) bd S D ba pa bc pc Zb cs:=by
 refine⟨h.disk.kept (Kept.setCells (S:=fun k=>k=w.heap.size+1) _ rfl cs 0 wr) (fun k hk e=>by have:=hS k hk;omega),h.kept.trans (Kept.setCells (S:=fun k=>k=w.heap.size+1) _ rfl cs 0 wr) (fun k hk=>.inr (by omega)),?_,?_⟩
 ·rw [yG _ _ (by omega)];exact h.resb
 ·rw [zY _ _ cs 0 wr _ h.curb (by simp;omega)]
  congr 2
  apply Array.ext'
  simp [hl]
theorem xR.done{w wr:World}{bd:Nat}{S:Nat→Prop}{D:Dk}{ba pa:Option Addr}{bc pc:Nat}{Zb cur:List Value}(h:xR w wr bd S D ba pa bc pc Zb cur)(hS:∀k,S k→k<w.heap.size)
 (hl:Zb.length=cur.length):zi (wr.setCells w.heap.size 0 cur) bd S D ba pa bc pc∧Kept (fun k=>k=bd) w (wr.setCells w.heap.size 0 cur)∧
  (wr.setCells w.heap.size 0 cur).heap[w.heap.size]? =some (.cells cur.toArray 131 (0,0)):=by
 refine⟨h.disk.kept (Kept.setCells (S:=fun k=>k=w.heap.size) _ rfl cur 0 wr) (fun k hk e=>by have:=hS k hk;omega),h.kept.trans (Kept.setCells (S:=fun k=>k=w.heap.size) _ rfl cur 0 wr) (fun k hk=>.inr (by omega)),?_⟩
 rw [zY _ _ cur 0 wr _ h.resb (by simp;omega)]
 congr 2
 apply Array.ext'
 simp [hl]
theorem zQ{w:World}{b:Nat}{t:TypeId}{cs:List Value}(hb:w.heap[b]? =some (.cells cs.toArray t (0,0))):w.rangeAt b 0 cs:=fun j v hv=>by
 rw [cell_of_row w b (0+j) _ t (0,0) hb];simpa using hv
theorem qN{w:World}{b:Nat}{t:TypeId}{cs:List Value}(hb:w.heap[b]? =some (.cells cs.toArray t (0,0))):w.there b 0 cs.length:=fun j hj=>
 ⟨(zQ hb).isSome j hj,frozen_of_row w b _ _ t hb⟩
theorem qJ{w:World}{b:Nat}{t:TypeId}{c:Value}{cs:List Value}(hb:w.heap[b]? =some (.cells (c::cs).toArray t (0,0))):w.rangeAt b 1 cs:=fun j v hv=>by
 rw [cell_of_row w b (1+j) _ t (0,0) hb,Nat.add_comm];simpa using hv
theorem zi.range{w:World}{bd:Nat}{S:Nat→Prop}{D:Dk}{g:Nat}{pa:Option Addr}{bc pc:Nat}(h:zi w bd S D (some ⟨g,0,none⟩) pa bc pc)(i:Nat)(hi:i<D.bs.length):w.rangeAt g (i*128) D.bs[i]:=
 qI h.rows (fun b hb=>(h.ok.bs b hb).1) i hi
theorem Qf{D:Dk}(h:D.Ok):∀b∈D.ps.map zM,b.length=129:=fun b hb=>by
 obtain⟨p,hp,rfl⟩:=List.mem_map.1 hb
 have:=(h.ps p hp).2.1
 simp [zM,this]
theorem zi.prange{w:World}{bd:Nat}{S:Nat→Prop}{D:Dk}{g:Nat}{ba:Option Addr}{bc pc:Nat}(h:zi w bd S D ba (some ⟨g,0,none⟩) bc pc)(i:Nat)(hi:i<D.ps.length):w.rangeAt g (i*129) (.int .i64 (D.ps[i].1:Int)::D.ps[i].2):=by
 have hp:=h.pend
 rw [show D.ps.length=(D.ps.map zM).length from by simp] at hp
 have:=qI hp (Qf h.ok) i (by simpa using hi)
 simpa [zM] using this
theorem cu(i:Nat)(ps:List (Nat×List Value))(b:List Value)(k:Nat)(hk:k<ps.length):yx i (ps.take (k+1)) b=if ps[k].1=i then ps[k].2 else yx i (ps.take k) b:=by
 unfold yx
 rw [List.take_succ_eq_append_getElem hk,List.foldl_append];rfl
theorem dl{i:Nat}{b:List Value}(hb:zy b):∀{ps:List (Nat×List Value)},(∀p∈ps,zy p.2)→zy (yx i ps b):=by
 intro ps
 induction ps generalizing b with
 |nil=>intro _;exact hb
 |cons p ps ih=>
  intro h
  unfold yx
  rw [List.foldl_cons]
  refine ih ?_ (fun q hq=>h q (List.mem_cons_of_mem _ hq))
  split
  ·exact h p (List.mem_cons_self ..)
  ·exact hb
theorem zi.len{w:World}{bd:Nat}{S:Nat→Prop}{D:Dk}{ba pa:Option Addr}{bc pc:Nat}(h:zi w bd S D ba pa bc pc):D.ps.length≤9223372036854775807:=by
 rcases h.pend.2 with⟨_,h0⟩|⟨g,cap,cur,hv,_,_,h1,h2,_⟩
 ·omega
 ·unfold maxLen at h2;omega
theorem Ko(w:World)(bd:Nat)(S:Nat→Prop)(D:Dk)(ba pa:Option Addr)(bc pc:Nat)(h:zi w bd S D ba pa bc pc)(i:Nat)(hi:i<D.bs.length)(hr0:0≤D.reads)(hr1:D.reads≤4611686018427387904):
 Calls Tryz.prog 81 #[.pointer (some ⟨bd,0,none⟩),.int .i64 i] w fun e w'=>
  e=.returned (.agg (D.look i).toArray)∧zi w' bd S {D with reads:=D.reads+1} ba pa bc pc∧Kept (fun k=>k=bd) w w':=by
 obtain⟨Zb,hZb,hz⟩:∃Zb:List Value,Zb=zT∧∀w,(zeroValue 131).run Tryz.prog w=.ok (.agg Zb.toArray) w:=⟨zT,rfl,zV Tryz.infoBlock⟩
 obtain⟨Zw,hZw,hzw⟩:∃Zw:List Value,Zw=qU∧∀w,(zeroValue 133).run Tryz.prog w=.ok (.agg Zw.toArray) w:=⟨qU,rfl,zV Tryz.infoWrite⟩
 have HZb:Hid (Zb.length=128):=by rw [hZb];exact zF.1
 have HZw:Hid (Zw.length=129):=by rw [hZw];exact congrArg (· +1) zF.1
 clear hZb hZw
 obtain⟨g,rfl⟩:=h.row (by omega)
 have hc0:=h.c0
 have hc1:=h.c1
 have hc3:=h.c3
 have hf3:=h.fz 3
 have hbd:=h.lt bd h.bdS
 have HH:Hid (zi w bd S D (some ⟨g,0,none⟩) pa bc pc):=h
 have hps:=h.len
 have HOB:Hid (zy D.bs[i]):=h.ok.bs _ (List.getElem_mem hi)
 have HS1:Hid (∀k,S k→k<w.heap.size):=h.lt
 have H1:Hid (zi (w.setCell ⟨bd,3,none⟩ (.int .i64 (D.reads+1))) bd S {D with reads:=D.reads+1} (some ⟨g,0,none⟩) pa bc pc):=h.set_reads (D.reads+1)
 have H2:Hid (zi ((w.setCell ⟨bd,3,none⟩ (.int .i64 (D.reads+1))).alloc (.cells Zb.toArray 131)) bd S {D with reads:=D.reads+1} (some ⟨g,0,none⟩) pa bc pc):=
  H1.out.kept (Kept.alloc (fun _=>False) _ _) nF
 have HR:Hid (xR w (((w.setCell ⟨bd,3,none⟩ (.int .i64 (D.reads+1))).alloc (.cells Zb.toArray 131)).alloc (.cells D.bs[i].toArray 131)) bd S {D with reads:=D.reads+1} (some ⟨g,0,none⟩) pa bc pc Zb D.bs[i]):=by
  refine⟨H2.out.kept (Kept.alloc (fun _=>False) _ _) nF,((Kept.setCell (S:=fun k=>k=bd) w _ _ rfl).trans (Kept.alloc _ _ _) iL).trans (Kept.alloc _ _ _) iL,?_,?_⟩
  ·have:=heap_alloc2_old (w.setCell ⟨bd,3,none⟩ (.int .i64 (D.reads+1))) (.cells Zb.toArray 131) (.cells D.bs[i].toArray 131)
   simpa using this
  ·have:=heap_alloc2_new (w.setCell ⟨bd,3,none⟩ (.int .i64 (D.reads+1))) (.cells Zb.toArray 131) (.cells D.bs[i].toArray 131)
   simpa using this
 have HI:Hid ((Tryz.prog.info? 131).map (·.size)=some 128):=zS Tryz.infoBlock
 have HIw:Hid ((Tryz.prog.info? 133).map (·.size)=some 129):=zS Tryz.infoWrite
 clear h
 have hlt:(i:Int)<(D.bs.length:Int):=by omega
 go_enter Tryz.func81,Tryz.ntmps81
 go_wp2_with (first
  |(refine wpList_load_mid rfl 131 (.tmp 32) rfl _ _ rfl D.bs[i] _ (H2.out.range i hi) Tryz.underlying131 rfl (by rw [HOB.out.1];exact HI.out) ?_)
  |(refine zg rfl 131 (.tmp 5) (.tmp 33) rfl _ _ D.bs[i] (by simp) rfl rfl (by rw [HOB.out.1];exact HI.out) (by rw [HOB.out.1];simpa using HZb.out) HOB.out.2 ?_))
 go_loopw [39] (fun t wr=>∃k:Nat,k≤D.ps.length∧t=.int .i64 k∧xR w wr bd S {D with reads:=D.reads+1} (some ⟨g,0,none⟩) pa bc pc Zb (yx i (D.ps.take k) D.bs[i])) (fun t _=>D.ps.length-(intOf t).toNat)
 case atStart=>exact⟨0,Nat.zero_le _,rfl,HR.out⟩
 case round=>
  obtain⟨k,hk,rfl,hinv⟩:=hrel
  have HV:Hid (xR w wr bd S {D with reads:=D.reads+1} (some ⟨g,0,none⟩) pa bc pc Zb (yx i (D.ps.take k) D.bs[i])):=hinv
  clear hinv
  have HL:Hid (zy (yx i (D.ps.take k) D.bs[i])):=dl HOB.out (fun p hp=>(HH.out.ok.ps p (List.mem_of_mem_take hp)).2)
  have hsz:=HV.out.lt
  by_cases hlt2:k<D.ps.length
  ·obtain⟨g2,rfl⟩:=HH.out.prow (by omega)
   have HP:Hid (wr.rangeAt g2 (k*129) (.int .i64 (D.ps[k].1:Int)::D.ps[k].2)):=HV.out.disk.prange k hlt2
   have HPO:Hid (zy D.ps[k].2):=(HH.out.ok.ps _ (List.getElem_mem hlt2)).2
   have HLS:Hid (yx i (D.ps.take (k+1)) D.bs[i]=if D.ps[k].1=i then D.ps[k].2 else yx i (D.ps.take k) D.bs[i]):=cu i D.ps D.bs[i] k hlt2
   generalize hq:D.ps[k]=q at*
   obtain⟨qi,qb⟩:=q
   have HP1:Hid (Value.oneCell' (.int .i64 (qi:Int))=true):=rfl
   have HA:Hid (xR w (wr.alloc (.cells (.int .i64 (qi:Int)::qb).toArray 133)) bd S {D with reads:=D.reads+1} (some ⟨g,0,none⟩) (some ⟨g2,0,none⟩) bc pc Zb (yx i (D.ps.take k) D.bs[i])):=HV.out.alloc _
   clear hq
   have hlt3:(k:Int)<(D.ps.length:Int):=by omega
   by_cases hqi:qi=i
   ·have hq2:((qi:Int)==(i:Int))=true:=by simp [hqi]
    have HQ:Hid (qi=i):=hqi
    clear hqi
    go_wp2_with (first
     |(refine wpList_load_mid rfl 133 (.tmp 41) rfl _ _ rfl (.int .i64 (qi:Int)::qb) _ HP.out Tryz.underlying133 rfl (by rw [List.length_cons,HPO.out.1];exact HIw.out) ?_)
     |(refine zg rfl 133 (.tmp 7) (.tmp 42) rfl _ _ (.int .i64 (qi:Int)::qb) rfl rfl rfl (by rw [List.length_cons,HPO.out.1];exact HIw.out) (by rw [List.length_cons,HPO.out.1];simpa using HZw.out) (List.forall_mem_cons.2 ⟨HP1.out,HPO.out.2⟩) ?_)
     |(refine wpList_load_mid rfl 131 (.tmp 47) rfl _ _ rfl qb _ (qJ (heap_alloc_new wr _)) Tryz.underlying131 rfl (by rw [HPO.out.1];exact HI.out) ?_)
     |(refine wpList_store_mid rfl 131 (.tmp 5) (.tmp 48) rfl _ _ _ rfl rfl (by have:=qN HA.out.curb;rw [HL.out.1] at this;simpa [HPO.out.1] using this) (by rw [List.size_toArray,HPO.out.1];exact HI.out) (all_oneCell_toArray HPO.out.2) ?_))
    go_roundw
    case rel=>exact⟨k+1,by omega,by go_num,by rw [HLS.out,if_pos HQ.out];exact HA.out.set HS1.out qb (by rw [HL.out.1,HPO.out.1])⟩
    case measure=>simp [intOf];omega
   ·have hq2:((qi:Int)==(i:Int))=false:=by simp;omega
    have HQ:Hid (¬qi=i):=hqi
    clear hqi
    go_wp2_with (first
     |(refine wpList_load_mid rfl 133 (.tmp 41) rfl _ _ rfl (.int .i64 (qi:Int)::qb) _ HP.out Tryz.underlying133 rfl (by rw [List.length_cons,HPO.out.1];exact HIw.out) ?_)
     |(refine zg rfl 133 (.tmp 7) (.tmp 42) rfl _ _ (.int .i64 (qi:Int)::qb) rfl rfl rfl (by rw [List.length_cons,HPO.out.1];exact HIw.out) (by rw [List.length_cons,HPO.out.1];simpa using HZw.out) (List.forall_mem_cons.2 ⟨HP1.out,HPO.out.2⟩) ?_))
    go_roundw
    case rel=>exact⟨k+1,by omega,by go_num,by rw [HLS.out,if_neg HQ.out];exact HA.out⟩
    case measure=>simp [intOf];omega
  ·have hge:¬(k:Int)<(D.ps.length:Int):=by omega
   go_wp2_with (first
    |(refine wpList_load_mid rfl 131 (.tmp 5) rfl _ _ rfl (yx i (D.ps.take k) D.bs[i]) _ (zQ HV.out.curb) Tryz.underlying131 rfl (by rw [HL.out.1];exact HI.out) ?_)
    |(refine wpList_store_mid rfl 131 (.tmp 4) (.tmp 50) rfl _ _ _ rfl rfl (by have:=qN HV.out.resb;rw [HZb.out] at this;simpa [HL.out.1] using this) (by rw [List.size_toArray,HL.out.1];exact HI.out) (all_oneCell_toArray HL.out.2) ?_))
   obtain⟨r1,r2,r3⟩:=HV.out.done HS1.out (by rw [HZb.out,HL.out.1])
   have hkk:yx i (D.ps.take k) D.bs[i]=D.look i:=by
    unfold Dk.look
    rw [if_pos ⟨by omega,hlt⟩,List.take_of_length_le (by omega),Int.toNat_natCast,List.getD_eq_getElem?_getD,List.getElem?_eq_getElem hi,Option.getD_some]
   refine bodyPost_ret (v:=.agg (yx i (D.ps.take k) D.bs[i]).toArray) (results_cell_row Tryz.results81 _ _ w.heap.size 131 _ (0,0) _ rfl r3 Tryz.underlying131 rfl (by rw [List.size_toArray,HL.out.1];exact HI.out)) rfl ⟨by rw [hkk],r1,r2⟩
end disk
namespace disk
open Go.RowKit
theorem cv(off:Nat):∀(vs:List Value) (k:Nat) (cells:Array Value),off+k+vs.length≤cells.size→
 ((vs.zipIdx k).foldl (fun cs (p:Value×Nat)=>cs.setIfInBounds (off+p.2) p.1) cells).toList=cells.toList.take (off+k)++vs++cells.toList.drop (off+k+vs.length)
 |[],k,cells,_=>by simp
 |v::r,k,cells,h=>by
  simp only [List.length_cons] at h
  rw [List.zipIdx_cons,List.foldl_cons,cv off r (k+1) _ (by simp;omega)]
  simp only [Array.toList_setIfInBounds,List.length_cons]
  rw [List.set_eq_take_append_cons_drop,if_pos (by simp;omega)]
  obtain⟨k1,k2⟩:=Yp (cells.toList.take (off+k)) (cells.toList.drop (off+k+1)) v (off+k) r.length (by simp;omega)
  rw [show off+(k+1)=off+k+1 from by omega,k1,k2,List.drop_drop,show off+k+1+r.length=off+k+(r.length+1) from by omega]
  simp
theorem v5(off:Nat)(vs:List Value)(cells:Array Value)(h:off+vs.length≤cells.size):
 vs.zipIdx.foldl (fun cs (p:Value×Nat)=>cs.setIfInBounds (off+p.2) p.1) cells=(cells.toList.take off++vs++cells.toList.drop (off+vs.length)).toArray:=by
 apply Array.ext'
 rw [cv off vs 0 cells (by simpa using h)]
 simp
theorem j6(vs:List Value)(cells:Array Value)(h:vs.length=cells.size):
 vs.zipIdx.foldl (fun cs (p:Value×Nat)=>cs.setIfInBounds p.2 p.1) cells=vs.toArray:=by
 have:=v5 0 vs cells (by omega)
 simp only [Nat.zero_add] at this
 rw [this,h]
 simp
theorem yO{t:TypeId}{n:Nat}(h:(Tryz.prog.info? t).map (·.size)=some n)(w:World):(sizeOf t).run Tryz.prog w=.ok n w:=by
 cases hq:Tryz.prog.info? t with
 |none=>simp [hq] at h
 |some i=>simp [hq] at h;simp [sizeOf,typeInfo,hq,h]
theorem cw:(Tryz.prog.info? 3).map (·.size)=some 1:=by kernel_rfl
theorem uT(w:World)(n:Int)(b:List Value)(h:b.length=128):
 (Instr.build 133 #[(0,.int .i64 n),(1,.agg b.toArray)]).run Tryz.prog w=.ok (.agg (.int .i64 n::b).toArray) w:=by
 have hz:=zV Tryz.infoWrite w
 have hzl:qU.length=129:=congrArg (· +1) zF.1
 have h1:∀w,(sizeOf 3).run Tryz.prog w=.ok 1 w:=yO cw
 have h2:∀w,(sizeOf 131).run Tryz.prog w=.ok 128 w:=yO (zS Tryz.infoBlock)
 generalize hZW:qU=ZW at*
 have hne:¬ZW=[]:=fun e=>by rw [e] at hzl;simp at hzl
 have f2:=v5 1 b (ZW.set 0 (.int .i64 n)).toArray (by simp [h,hzl])
 have hl:¬(¬b.length=128∨ZW.length<1+b.length):=by omega
 simp only [Instr.build,Sem.run_bind,hz,Result.andThen_ok,run_underlying Tryz.underlying133 w]
 simp [h1,h2,Value.cells,Instr.fill]
 rw [if_neg hne,if_neg hl,f2]
 simp only [Sem.run_pure]
 congr 2
 apply Array.ext'
 cases ZW with
 |nil=>exact absurd rfl hne
 |cons z Z=>simp [h];simp at hzl;omega
theorem uU(w:World)(cs:List Value)(h:cs.length=129):
 (Instr.buildSlice 116 1 #[(0,.agg cs.toArray)]).run Tryz.prog w=.ok (.slice (some ⟨w.heap.size,0,none⟩) 1 1) (w.alloc (.cells cs.toArray 133)):=by
 have hz:=zV Tryz.infoWrite w
 have h2:∀w,(sizeOf 133).run Tryz.prog w=.ok 129 w:=yO (zS Tryz.infoWrite)
 have hzl:qU.length=129:=congrArg (· +1) zF.1
 generalize hZW:qU=ZW at*
 have hl:¬(¬cs.length=129∨129<cs.length):=by omega
 simp only [Instr.buildSlice,Sem.run_bind,Result.andThen_ok,run_underlying Tryz.underlying116 w]
 first
  |(simp [h2,Value.cells,Instr.fill]
    rw [if_neg hl,j6 cs _ (by simp [h])]
    simp [newRow]
    done)
  |(simp [h2,hz,Value.cells,Instr.fill,hzl]
    rw [if_neg hl,j6 cs _ (by simp [h])]
    simp [newRow])
def XT(parts:Array (Nat×Value)):Sem Value:=Instr.build 133 parts
theorem YZ(parts:Array (Nat×Value)):Instr.build 133 parts=XT parts:=rfl
theorem Qg(w:World)(n:Int)(b:List Value)(h:b.length=128):(XT #[(0,.int .i64 n),(1,.agg b.toArray)]).run Tryz.prog w=.ok (.agg (.int .i64 n::b).toArray) w:=uT w n b h
def XU(len:Nat)(parts:Array (Nat×Value)):Sem Value:=Instr.buildSlice 116 len parts
theorem Y0(len:Nat)(parts:Array (Nat×Value)):Instr.buildSlice 116 len parts=XU len parts:=rfl
theorem Qh(w:World)(c:Value)(cs:List Value)(h:cs.length=128):(XU 1 #[(0,.agg (c::cs).toArray)]).run Tryz.prog w=.ok (.slice (some ⟨w.heap.size,0,none⟩) 1 1) (w.alloc (.cells (c::cs).toArray 133)):=
 uU w (c::cs) (by simp [h])
def XV(v:Value):Sem Value:=Instr.loadAt 131 v
theorem XW(v:Value):Instr.loadAt 131 v=XV v:=rfl
theorem Y1(w:World)(b o:Nat)(cs:List Value)(hc:w.rangeAt b o cs)(h:cs.length=128):(XV (.pointer (some ⟨b,o,none⟩))).run Tryz.prog w=.ok (.agg cs.toArray) w:=
 run_loadAt_mid w b o 131 cs _ hc Tryz.underlying131 rfl (by rw [h];exact zS Tryz.infoBlock)
end disk
namespace ref
open Go.ChangeShapes Go.WideShapes Go.ChangeAt Go.RowKit disk
open keys (ze zd zr zn)
theorem vn{a b:ByteArray}:a.toList=b.toList↔a=b:=⟨fun h=>jY (by rw [←ByteArray.toList_eq,←ByteArray.toList_eq,h]),fun h=>by rw [h]⟩
def cy(vs:List qa)(k:ByteArray)(n:Int):Int:=((vs.findIdx? fun v=>decide (v.key=k)&&decide (v.num=n)).map fun i=>(i:Int)).getD (-1)
theorem XX{vs:List qa}{k:ByteArray}{n:Int}{i:Nat}(hi:i<vs.length)(hk:vs[i].key=k)(hn:vs[i].num=n)(hno:∀j (hj:j<vs.length),j<i→¬(vs[j].key=k∧vs[j].num=n)):cy vs k n=(i:Int):=by
 have:vs.findIdx? (fun v=>decide (v.key=k)&&decide (v.num=n))=some i:=List.findIdx?_eq_some_iff_getElem.2 ⟨hi,by simp [hk,hn],fun j hj=>by have:=hno j (by omega) hj;simp;exact fun h1 h2=>this ⟨h1,h2⟩⟩
 simp [cy,this]
theorem Y2{vs:List qa}{k:ByteArray}{n:Int}(hno:∀j (hj:j<vs.length),¬(vs[j].key=k∧vs[j].num=n)):cy vs k n= -1:=by
 have:vs.findIdx? (fun v=>decide (v.key=k)&&decide (v.num=n))=none:=List.findIdx?_eq_none_iff.2 fun x hx=>by
  obtain⟨j,hj,rfl⟩:=List.getElem_of_mem hx
  have:=hno j hj;simp;exact fun h1 h2=>this ⟨h1,h2⟩
 simp [cy,this]
theorem jG(w:World)(F G:Nat→Prop)(b:Nat)(vs:List qa)(last:Int)(h:qy w F G b vs last)(hlen:vs.length≤9223372036854775807)(key:ByteArray)(n:Int):
 Calls Tryz.prog 153 #[.pointer (some ⟨b,0,none⟩),.string key,.int .i64 n] w fun e w'=>e=.returned (.int .i64 (cy vs key n))∧w'=w:=by
 obtain⟨a,cap,cs,h⟩:=h
 have hc0:=h.c0
 have HH:Hid _:=h
 clear h
 go_enter Tryz.func153,Tryz.ntmps153
 go_wp2
 go_loop [7] (fun i=>∃k:Nat,k≤vs.length∧i=.int .i64 k∧∀j (hj:j<vs.length),j<k→¬(vs[j].key=key∧vs[j].num=n)) (fun i=>vs.length-(intOf i).toNat)
 case atStart=>exact⟨0,Nat.zero_le _,rfl,fun _ _ h=>by omega⟩
 case round=>
  obtain⟨k,hk,rfl,hno⟩:=hrel
  have HN:Hid _:=hno
  clear hno
  by_cases hlt:k<vs.length
  ·obtain⟨g,rfl⟩:=HH.out.rowAt (by omega)
   obtain⟨h0,h1,_⟩:=HH.out.cells k hlt
   have next:¬(vs[k].key=key∧vs[k].num=n)→∀j (hj:j<vs.length),j<k+1→¬(vs[j].key=key∧vs[j].num=n):=fun hn j hj hjk=>by
    by_cases e:j=k
    ·subst e;exact hn
    ·exact HN.out j hj (by omega)
   have HX:Hid _:=next
   clear next
   go_wp2
   ·go_ret
    exact⟨ze (XX hlt (vn.1 ‹_›) (zn ‹_›) HN.out).symm,rfl⟩
   all_goals
    go_round
    case rel=>exact⟨k+1,by omega,by go_num,HX.out (fun h=>by first|exact absurd (vn.2 h.1) ‹_› |exact absurd h.2 (zr ‹_›))⟩
    case measure=>simp [intOf];omega
  ·go_wp2
   go_ret
   exact⟨ze (Y2 fun j hj=>HN.out j hj (by omega)).symm,rfl⟩
def VU(vs:List qa)(key:ByteArray)(k:Nat)(t:Value):Prop:=
 (t=.int .i64 (-1)∧yJ (vs.take k) key=none)∨∃(m:Nat) (h:m<vs.length),m<k∧t=.int .i64 (m:Int)∧yJ (vs.take k) key=some vs[m]
end ref
namespace disk
open Go.ChangeShapes Go.WideShapes Go.ChangeAt Go.RowKit
theorem XY(w:World)(bd:Nat)(S:Nat→Prop)(D:Dk)(ba pa:Option Addr)(bc pc:Nat)(h:zi w bd S D ba pa bc pc)(a:Int)(ha:zD a)(hi:a<0∨D.bs.length≤a)(hr0:0≤D.reads)(hr1:D.reads≤4611686018427387904):
 Calls Tryz.prog 81 #[.pointer (some ⟨bd,0,none⟩),.int .i64 a] w fun e w'=>
  e=.returned (.agg (D.look a).toArray)∧zi w' bd S {D with reads:=D.reads+1} ba pa bc pc∧Kept (fun k=>k=bd) w w':=by
 obtain⟨Zb,hZb,hz⟩:∃Zb:List Value,Zb=zT∧∀w,(zeroValue 131).run Tryz.prog w=.ok (.agg Zb.toArray) w:=⟨zT,rfl,zV Tryz.infoBlock⟩
 have HZ:Hid (D.look a=Zb):=by
  show D.look a=Zb
  unfold Dk.look
  rw [if_neg (by omega),hZb]
 have HZb:Hid (zy Zb):=by rw [hZb];exact zF
 clear hZb
 have hc0:=h.c0
 have hc3:=h.c3
 have hf3:=h.fz 3
 have hbd:=h.lt bd h.bdS
 have HI:Hid ((Tryz.prog.info? 131).map (·.size)=some 128):=zS Tryz.infoBlock
 obtain⟨ha1,ha2⟩:=ha
 have H1:Hid (zi (w.setCell ⟨bd,3,none⟩ (.int .i64 (D.reads+1))) bd S {D with reads:=D.reads+1} ba pa bc pc):=h.set_reads (D.reads+1)
 have H2:Hid (zi ((w.setCell ⟨bd,3,none⟩ (.int .i64 (D.reads+1))).alloc (.cells Zb.toArray 131)) bd S {D with reads:=D.reads+1} ba pa bc pc):=
  H1.out.kept (Kept.alloc (fun _=>False) _ _) nF
 have HK:Hid (Kept (fun k=>k=bd) w ((w.setCell ⟨bd,3,none⟩ (.int .i64 (D.reads+1))).alloc (.cells Zb.toArray 131))):=
  (Kept.setCell (S:=fun k=>k=bd) w _ _ rfl).trans (Kept.alloc _ _ _) iL
 clear h H1
 rcases hi with hi|hi
 ·go_enter Tryz.func81,Tryz.ntmps81
  go_wp2_with (refine zg rfl 131 (.tmp 4) (.tmp 26) rfl _ _ Zb (by simp) rfl rfl (by rw [HZb.out.1];exact HI.out) (by simp) HZb.out.2 ?_)
  refine bodyPost_ret (v:=.agg Zb.toArray) (results_cell_row Tryz.results81 _ _ w.heap.size 131 _ (0,0) _ rfl (by have:=heap_alloc_new (w.setCell ⟨bd,3,none⟩ (.int .i64 (D.reads+1))) (.cells Zb.toArray 131);simpa using this) Tryz.underlying131 rfl (by rw [List.size_toArray,HZb.out.1];exact HI.out)) rfl ⟨by rw [HZ.out],H2.out,HK.out⟩
 ·go_enter Tryz.func81,Tryz.ntmps81
  go_wp2_with (refine zg rfl 131 (.tmp 4) (.tmp 26) rfl _ _ Zb (by simp) rfl rfl (by rw [HZb.out.1];exact HI.out) (by simp) HZb.out.2 ?_)
  refine bodyPost_ret (v:=.agg Zb.toArray) (results_cell_row Tryz.results81 _ _ w.heap.size 131 _ (0,0) _ rfl (by have:=heap_alloc_new (w.setCell ⟨bd,3,none⟩ (.int .i64 (D.reads+1))) (.cells Zb.toArray 131);simpa using this) Tryz.underlying131 rfl (by rw [List.size_toArray,HZb.out.1];exact HI.out)) rfl ⟨by rw [HZ.out],H2.out,HK.out⟩
theorem xy(w:World)(bd:Nat)(S:Nat→Prop)(D:Dk)(h:zh w bd S D)(a:Int)(ha:zD a)(hr0:0≤D.reads)(hr1:D.reads≤4611686018427387904):
 Calls Tryz.prog 81 #[.pointer (some ⟨bd,0,none⟩),.int .i64 a] w fun e w'=>
  e=.returned (.agg (D.look a).toArray)∧zh w' bd S {D with reads:=D.reads+1}∧Kept (fun k=>k=bd) w w':=by
 obtain⟨ba,pa,bc,pc,h⟩:=h
 by_cases hi:a<0∨D.bs.length≤a
 ·exact(XY w bd S D ba pa bc pc h a ha hi hr0 hr1).mono fun e w' ⟨h1,h2,h3⟩=>⟨h1,⟨ba,pa,bc,pc,h2⟩,h3⟩
 ·obtain⟨i,rfl⟩:∃i:Nat,a=i:=⟨a.toNat,by omega⟩
  exact(Ko w bd S D ba pa bc pc h i (by omega) hr0 hr1).mono fun e w' ⟨h1,h2,h3⟩=>⟨h1,⟨ba,pa,bc,pc,h2⟩,h3⟩
end disk
namespace disk
open Go.ChangeShapes Go.WideShapes Go.ChangeAt Go.RowKit
attribute [local go_sem ↓] Go.wp_at_zero Go.wp_at_succ YZ Y0 XW
attribute [local go_sem] Qg Qh
theorem zi.pushed{w w2:World}{bd:Nat}{S:Nat→Prop}{D:Dk}{ba pa:Option Addr}{bc pc:Nat}(h:zi w bd S D ba pa bc pc)(o:Obj)(i:Nat)(hi:i<D.bs.length)(b:List Value)(hb:zy b)(g cap:Nat)
 (hown:w2.ownsRow 0 133 129 (.slice (some ⟨g,0,none⟩) (D.ps.length+1) cap) (D.ps.length+1) ((D.ps.map zM).flatten++.int .i64 (i:Int)::b))
 (hgrow:(w.alloc o).drew.grownBy w2 (Value.slice pa D.ps.length pc).ownBlock) (hat:(Value.slice pa D.ps.length pc).ownBlock=some g∨g=w.heap.size+1):
 zi (w2.setCell ⟨bd,1,none⟩ (.slice (some ⟨g,0,none⟩) (D.ps.length+1) cap)) bd (fun k=>k=bd∨(Value.slice ba D.bs.length bc).ownBlock=some k∨k=g) {D with ps:=D.ps++[(i,b)]} ba (some ⟨g,0,none⟩) bc cap∧
  (∀k,(k=bd∨(Value.slice ba D.bs.length bc).ownBlock=some k∨k=g)→S k∨w.heap.size≤k)∧Kept S w (w2.setCell ⟨bd,1,none⟩ (.slice (some ⟨g,0,none⟩) (D.ps.length+1) cap)):=by
 have hbd:=h.lt bd h.bdS
 have hgb:g≠bd:=by
  rcases hat with e|e
  ·exact fun e2=>h.ap2 (by rw [e,e2])
  ·omega
 have hk2:Kept (fun k=>(Value.slice pa D.ps.length pc).ownBlock=some k) (w.alloc o).drew w2:=Kept.grown hgrow (fun k hk=>hk)
 have hk:Kept (fun k=>(Value.slice pa D.ps.length pc).ownBlock=some k) w w2:=((Kept.alloc _ w o).trans (Kept.drew _ _) iL).trans hk2 iL
 have hset:=Kept.setCell (S:=fun k=>k=bd) w2 ⟨bd,1,none⟩ (.slice (some ⟨g,0,none⟩) (D.ps.length+1) cap) rfl
 have hl:(D.ps++[(i,b)]).length=D.ps.length+1:=by simp
 have hrows2:=hk.owns h.rows (fun k hk e=>h.ap3 k hk e)
 refine⟨⟨⟨h.ok.bs,?_,h.ok.few⟩,?_,?_,?_,?_,h.ap1,?_,?_⟩,?_,?_⟩
 ·intro p hp
  rcases List.mem_append.1 hp with hp|hp
  ·exact h.ok.ps p hp
  ·rw [List.mem_singleton.1 hp];exact⟨hi,hb⟩
 ·simp only [hl]
  have e:w2.heap[bd]? =_:=(hk.block bd hbd (fun e=>h.ap2 e)).trans h.head
  rw [heap_setCell_same w2 bd 1 _ _ _ e];rfl
 ·exact hset.owns hrows2 (fun k hk e=>h.ap1 (by rw [hk,e]))
 ·simp only [hl]
  have:=hset.owns hown (fun k hk e=>by simp [Value.ownBlock] at hk;omega)
  simpa [zM] using this
 ·intro k;simp only [hl];simp [Value.ownBlock,eq_comm]
 ·simp [Value.ownBlock];exact hgb
 ·intro k hk
  simp [Value.ownBlock]
  intro e
  rcases hat with e2|e2
  ·exact h.ap3 k hk (by rw [e2,e])
  ·have:=(h.rows.lt k hk).2;omega
 ·intro k hk
  rcases hk with rfl|hk|rfl
  ·exact .inl h.bdS
  ·exact .inl ((h.own k).2 (.inr (.inl hk)))
  ·rcases hat with e2|e2
   ·exact .inl ((h.own k).2 (.inr (.inr e2)))
   ·right;omega
 ·refine(hk.mono (fun k hk=>(h.own k).2 (.inr (.inr hk)))).trans hset (fun k hk=>.inl (by rw [hk];exact h.bdS))
theorem XZ(w:World)(bd:Nat)(S:Nat→Prop)(D:Dk)(ba pa:Option Addr)(bc pc:Nat)(h:zi w bd S D ba pa bc pc)(i:Nat)(hi:i<D.bs.length)(b:List Value)(hb:zy b)
 (hfu:zD D.fuse) (hlive:(D.fuse==0)=false) (hps:D.ps.length≤68719476736):
 Calls Tryz.prog 146 #[.pointer (some ⟨bd,0,none⟩),.int .i64 i,.agg b.toArray] w fun e w'=>
  e=.returned (.bool true)∧(∃S',zh w' bd S' {D with ps:=D.ps++[(i,b)],fuse:=qj D.fuse}∧∀k,S' k→S k∨w.heap.size≤k)∧Kept S w w':=by
 obtain⟨hb1,hb2⟩:=hb
 have hc0:=h.c0
 have hlt:(i:Int)<(D.bs.length:Int):=by omega
 have hbd:=h.lt bd h.bdS
 have H2:Hid (zi (w.alloc (.cells b.toArray 131)) bd S D ba pa bc pc):=h.kept (Kept.alloc (fun _=>False) _ _) nF
 clear h
 go_enter Tryz.func146,Tryz.ntmps146
 go_wp2_with (go_at_call 65;refine(vm _ bd S D ba pa bc pc H2.out hfu).mono ?_;rintro e w1 ⟨rfl,hd1,hk1⟩;have HD1:Hid _:=hd1;have HK1:Hid _:=hk1;clear hd1 hk1)
 have hc1:=HD1.out.c1
 have hf1:=HD1.out.fz 1
 have hlt1:=HD1.out.lt bd HD1.out.bdS
 have HB1:Hid (w1.heap[w.heap.size]? =some (.cells b.toArray 131 (0,0))):=by
  show w1.heap[w.heap.size]? =_
  rw [HK1.out.block w.heap.size (by simp) (by omega)];exact heap_alloc_new w _
 have hr1:(XV (.pointer (some ⟨w.heap.size,0,none⟩))).run Tryz.prog w1.drew=.ok (.agg b.toArray) w1.drew:=Y1 _ _ _ b (zQ (w:=w1.drew) HB1.out) hb1
 obtain⟨i0,hi0,hz0,hz1,hz2⟩:=info_parts Tryz.infoWrite
 have HI0:Hid (Tryz.prog.info? 133=some i0∧i0.zero=some (.agg qU.toArray)∧i0.size=129∧i0.bytes=136):=⟨hi0,hz0,hz1,hz2⟩
 clear hi0 hz0 hz1 hz2
 have HOWN:Hid (((w1.alloc (.cells (.int .i64 (i:Int)::b).toArray 133)).drew).ownsRow 0 133 129 (.slice pa D.ps.length pc) D.ps.length (D.ps.map zM).flatten):=HD1.out.pend.alloc _
 go_region_law ((refine step_append_lies _ rfl (.tmp 27) (.tmp 31) 116 rfl 0 133 i0 _ 129 136 Tryz.underlying116 HI0.out.1 HI0.out.2.1 HI0.out.2.2.1 HI0.out.2.2.2 (congrArg (· +1) zF.1) (by omega) (.slice pa D.ps.length pc) D.ps.length _ (by rfl) HOWN.out ⟨w1.heap.size,0,none⟩ 1 1 (.int .i64 (i:Int)::b) (by rfl) (by simp [hb1]) (World.news_of_block (w:=(w1.alloc (.cells (.int .i64 (i:Int)::b).toArray 133)).drew) (heap_alloc_new w1 _)) (List.forall_mem_cons.2 ⟨rfl,hb2⟩) (by omega) (by unfold maxLen;omega) (by omega) (Nat.zero_le _) (w1.heap.size+1) (by simp) ?_;intro g cap w2 hown hgrow hat hlt2;have HP:Hid _:=zi.pushed HD1.out _ i hi b ⟨hb1,hb2⟩ g cap hown hgrow hat;have hcc:w2.cell? ⟨bd,1,none⟩=some (.slice pa D.ps.length pc):=(hgrow.cell_far ⟨bd,1,none⟩ (by simp;omega) (fun e=>HD1.out.ap2 e.symm)).trans (by simpa using HD1.out.kept (Kept.alloc (fun _=>False) w1 _) nF |>.c1);have hff:w2.frozen? ⟨bd,1,none⟩=false:=(hgrow.frozen_far ⟨bd,1,none⟩ (by simp;omega) (fun e=>HD1.out.ap2 e.symm)).trans (by simpa using HD1.out.kept (Kept.alloc (fun _=>False) w1 _) nF |>.fz 1);clear hown hgrow hat))
 all_goals
  go_wp2
  go_ret
  refine⟨rfl,⟨_,⟨_,_,_,_,HP.out.1⟩,fun k hk=>?_⟩,?_⟩
  ·have hs:=HK1.out.size
   simp at hs
   rcases HP.out.2.1 k hk with h1|h1
   ·exact .inl h1
   ·right;omega
  ·exact(((Kept.alloc (fun k=>k=bd) w _).trans HK1.out iL).mono (fun k hk=>by rw [hk];exact HD1.out.bdS)).trans HP.out.2.2 (fun k hk=>.inl hk)
theorem Qi(w:World)(bd:Nat)(S:Nat→Prop)(D:Dk)(ba pa:Option Addr)(bc pc:Nat)(h:zi w bd S D ba pa bc pc)(i:Nat)(hi:i<D.bs.length)(b:List Value)
 (hfu:zD D.fuse) (hdead:(D.fuse==0)=true):
 Calls Tryz.prog 146 #[.pointer (some ⟨bd,0,none⟩),.int .i64 i,.agg b.toArray] w fun e w'=>
  e=.returned (.bool false)∧zh w' bd S D∧Kept S w w':=by
 have hc0:=h.c0
 have hlt:(i:Int)<(D.bs.length:Int):=by omega
 have hbd:=h.lt bd h.bdS
 have H2:Hid (zi (w.alloc (.cells b.toArray 131)) bd S D ba pa bc pc):=h.kept (Kept.alloc (fun _=>False) _ _) nF
 have he:D.fuse=0:=by simpa using hdead
 have HE:Hid (D.fuse=0):=he
 clear he
 clear h
 go_enter Tryz.func146,Tryz.ntmps146
 go_wp2_with (go_at_call 65;refine(vm _ bd S D ba pa bc pc H2.out hfu).mono ?_;rintro e w1 ⟨rfl,hd1,hk1⟩;have HD1:Hid _:=hd1;have HK1:Hid _:=hk1;clear hd1 hk1)
 go_ret
 refine⟨rfl,⟨ba,pa,bc,pc,?_⟩,((Kept.alloc (fun k=>k=bd) w _).trans HK1.out iL).mono (fun k hk=>by rw [hk];exact HD1.out.bdS)⟩
 have hd:=HD1.out
 rw [HE.out] at hd
 have e0:({D with fuse:=qj 0}:Dk)=D:=by
  have:=HE.out
  cases D;simp only at this;subst this;rfl
 rw [e0] at hd
 exact hd
theorem Y3(w:World)(bd:Nat)(S:Nat→Prop)(D:Dk)(ba pa:Option Addr)(bc pc:Nat)(h:zi w bd S D ba pa bc pc)(a:Int)(ha:zD a)(hi:a<0∨D.bs.length≤a)(b:List Value):
 Calls Tryz.prog 146 #[.pointer (some ⟨bd,0,none⟩),.int .i64 a,.agg b.toArray] w fun e w'=>
  e=.returned (.bool false)∧zh w' bd S D∧Kept S w w':=by
 have hc0:=h.c0
 have hbd:=h.lt bd h.bdS
 have H2:Hid (zi (w.alloc (.cells b.toArray 131)) bd S D ba pa bc pc):=h.kept (Kept.alloc (fun _=>False) _ _) nF
 obtain⟨ha1,ha2⟩:=ha
 clear h
 rcases hi with hi|hi
 all_goals
  go_enter Tryz.func146,Tryz.ntmps146
  go_wp2
  go_ret
  exact⟨rfl,⟨_,_,_,_,H2.out⟩,Kept.alloc _ _ _⟩
def Dk.write(D:Dk)(a:Int)(b:List Value):Dk:=if 0≤a∧a<D.bs.length∧D.fuse≠0 then {D with ps:=D.ps++[(a.toNat,b)],fuse:=qj D.fuse} else D
def Dk.writes(D:Dk)(a:Int):Bool:=decide (0≤a∧a<D.bs.length∧D.fuse≠0)
theorem yU(w:World)(bd:Nat)(S:Nat→Prop)(D:Dk)(h:zh w bd S D)(a:Int)(ha:zD a)(b:List Value)(hb:zy b)(hfu:zD D.fuse)(hps:D.ps.length≤68719476736):
 Calls Tryz.prog 146 #[.pointer (some ⟨bd,0,none⟩),.int .i64 a,.agg b.toArray] w fun e w'=>
  e=.returned (.bool (D.writes a))∧(∃S',zh w' bd S' (D.write a b)∧∀k,S' k→S k∨w.heap.size≤k)∧Kept S w w':=by
 obtain⟨ba,pa,bc,pc,h⟩:=h
 by_cases hi:a<0∨D.bs.length≤a
 ·have hn:¬(0≤a∧a<D.bs.length∧D.fuse≠0):=by omega
  rw [show D.writes a=false from decide_eq_false hn,show D.write a b=D from if_neg hn]
  exact(Y3 w bd S D ba pa bc pc h a ha hi b).mono fun e w' ⟨h1,h2,h3⟩=>⟨h1,⟨S,h2,fun k hk=>.inl hk⟩,h3⟩
 ·obtain⟨i,rfl⟩:∃i:Nat,a=i:=⟨a.toNat,by omega⟩
  by_cases hf:D.fuse=0
  ·have hn:¬(0≤(i:Int)∧(i:Int)<D.bs.length∧D.fuse≠0):=by omega
   rw [show D.writes i=false from decide_eq_false hn,show D.write i b=D from if_neg hn]
   exact(Qi w bd S D ba pa bc pc h i (by omega) b hfu (by simpa using hf)).mono fun e w' ⟨h1,h2,h3⟩=>⟨h1,⟨S,h2,fun k hk=>.inl hk⟩,h3⟩
  ·have hn:0≤(i:Int)∧(i:Int)<D.bs.length∧D.fuse≠0:=by omega
   rw [show D.writes i=true from decide_eq_true hn,show D.write i b={D with ps:=D.ps++[(i,b)],fuse:=qj D.fuse} from by unfold Dk.write;rw [if_pos hn];simp]
   exact XZ w bd S D ba pa bc pc h i (by omega) b hb hfu (by simpa using hf) hps
end disk
namespace disk
open Go.RowKit
def zj(bs:List (List Value))(ps:List (Nat×List Value)):List (List Value):=ps.foldl (fun bs p=>bs.set p.1 p.2) bs
theorem zB(ps:List (Nat×List Value)):∀bs,(zj bs ps).length=bs.length:=by
 induction ps with
 |nil=>intro bs;rfl
 |cons p ps ih=>intro bs;unfold zj;rw [List.foldl_cons];exact(ih _).trans (by simp)
theorem cz(bs:List (List Value))(ps:List (Nat×List Value))(k:Nat)(hk:k<ps.length):zj bs (ps.take (k+1))=(zj bs (ps.take k)).set ps[k].1 ps[k].2:=by
 unfold zj;rw [List.take_succ_eq_append_getElem hk,List.foldl_append];rfl
theorem zi.setb{w:World}{bd:Nat}{S:Nat→Prop}{D:Dk}{g:Nat}{pa:Option Addr}{bc pc:Nat}(h:zi w bd S D (some ⟨g,0,none⟩) pa bc pc)(i:Nat)(hi:i<D.bs.length)(b:List Value)(hb:zy b):
 zi (w.setCells g (i*128) b) bd S {D with bs:=D.bs.set i b} (some ⟨g,0,none⟩) pa bc pc:=by
 have hl:(D.bs.set i b).length=D.bs.length:=by simp
 have hg:g≠bd:=fun e=>h.ap1 (by rw [e];rfl)
 have hk:=Kept.setCells (S:=fun k=>k=g) g rfl b (i*128) w
 refine⟨⟨?_,?_,by simpa using h.ok.few⟩,?_,?_,?_,?_,?_,?_,?_⟩
 ·intro x hx
  rcases List.mem_or_eq_of_mem_set hx with hx|rfl
  ·exact h.ok.bs x hx
  ·exact hb
 ·intro p hp;simpa using h.ok.ps p hp
 ·simp only [hl]
  rw [hk.block bd (h.lt bd h.bdS) (fun e=>hg e.symm)];exact h.head
 ·simp only [hl]
  exact gr h.rows (fun x hx=>(h.ok.bs x hx).1) i hi b hb.1
 ·exact hk.owns h.pend (fun k hk2 e=>h.ap3 k (by rw [e];rfl) hk2)
 ·simp only [hl];exact h.own
 ·simp only [hl];exact h.ap1
 ·exact h.ap2
 ·simp only [hl];exact h.ap3
theorem zi.bthere{w:World}{bd:Nat}{S:Nat→Prop}{D:Dk}{g:Nat}{pa:Option Addr}{bc pc:Nat}(h:zi w bd S D (some ⟨g,0,none⟩) pa bc pc)(i:Nat)(hi:i<D.bs.length):w.there g (i*128) 128:=
 gp h.rows (fun b hb=>(h.ok.bs b hb).1) i hi
theorem zi.nopend{w:World}{bd:Nat}{S:Nat→Prop}{D:Dk}{ba pa:Option Addr}{bc pc:Nat}(h:zi w bd S D ba pa bc pc):
 zi (w.setCell ⟨bd,1,none⟩ (.slice none 0 0)) bd (fun k=>k=bd∨(Value.slice ba D.bs.length bc).ownBlock=some k) {D with ps:=[]} ba none bc 0:=by
 have hk:=Kept.setCell (S:=fun k=>k=bd) w ⟨bd,1,none⟩ (.slice none 0 0) rfl
 refine⟨⟨h.ok.bs,fun p hp=>(by cases hp),h.ok.few⟩,?_,hk.owns h.rows (fun k hk2 e=>h.ap1 (by rw [hk2,e])),World.ownsRow_nil _ _ _ _,?_,h.ap1,by simp [Value.ownBlock],fun k _=>by simp [Value.ownBlock]⟩
 ·rw [heap_setCell_same w bd 1 _ _ _ h.head];rfl
 ·intro k;simp [Value.ownBlock]
structure y7 (w wr:World) (bd:Nat) (S:Nat→Prop) (D:Dk) (ba pa:Option Addr) (bc pc:Nat):Prop where
 disk:zi wr bd S D ba pa bc pc
 kept:Kept S w wr
theorem y7.alloc{w wr:World}{bd:Nat}{S:Nat→Prop}{D:Dk}{ba pa:Option Addr}{bc pc:Nat}(h:y7 w wr bd S D ba pa bc pc)(o:Obj):y7 w (wr.alloc o) bd S D ba pa bc pc:=
 ⟨h.disk.kept (Kept.alloc (fun _=>False) wr o) nF,h.kept.trans (Kept.alloc S wr o) iL⟩
theorem y7.drew{w wr:World}{bd:Nat}{S:Nat→Prop}{D:Dk}{ba pa:Option Addr}{bc pc:Nat}(h:y7 w wr bd S D ba pa bc pc):y7 w wr.drew bd S D ba pa bc pc:=
 ⟨h.disk.kept (Kept.drew (fun _=>False) wr) nF,h.kept.trans (Kept.drew S wr) iL⟩
theorem y7.setb{w wr:World}{bd:Nat}{S:Nat→Prop}{D:Dk}{g:Nat}{pa:Option Addr}{bc pc:Nat}(h:y7 w wr bd S D (some ⟨g,0,none⟩) pa bc pc)(i:Nat)(hi:i<D.bs.length)(b:List Value)(hb:zy b):
 y7 w (wr.setCells g (i*128) b) bd S {D with bs:=D.bs.set i b} (some ⟨g,0,none⟩) pa bc pc:=
 ⟨h.disk.setb i hi b hb,h.kept.trans (Kept.setCells (S:=S) g ((h.disk.own g).2 (.inr (.inl rfl))) b (i*128) wr) iL⟩
end disk
namespace disk
open Go.ChangeShapes Go.WideShapes Go.ChangeAt Go.RowKit
attribute [local go_sem ↓] Go.wp_at_zero Go.wp_at_succ
theorem jv(w:World)(bd:Nat)(S:Nat→Prop)(D:Dk)(ba pa:Option Addr)(bc pc:Nat)(h:zi w bd S D ba pa bc pc)(hfu:zD D.fuse)(hlive:(D.fuse==0)=false):
 Calls Tryz.prog 40 #[.pointer (some ⟨bd,0,none⟩)] w fun e w'=>
  e=.returned (.bool true)∧(∃S',zh w' bd S' {D with bs:=zj D.bs D.ps,ps:=[],fuse:=qj D.fuse}∧∀k,S' k→S k)∧Kept S w w':=by
 obtain⟨Zw,hZw,hzw⟩:∃Zw:List Value,Zw=qU∧∀w,(zeroValue 133).run Tryz.prog w=.ok (.agg Zw.toArray) w:=⟨qU,rfl,zV Tryz.infoWrite⟩
 have HZw:Hid (Zw.length=129):=by rw [hZw];exact congrArg (· +1) zF.1
 clear hZw
 have hps:=h.len
 have HH:Hid (zi w bd S D ba pa bc pc):=h
 have HIw:Hid ((Tryz.prog.info? 133).map (·.size)=some 129):=zS Tryz.infoWrite
 clear h
 go_enter Tryz.func40,Tryz.ntmps40
 go_wp2_with (go_at_call 65;refine(vm _ bd S D ba pa bc pc HH.out hfu).mono ?_;rintro e w1 ⟨rfl,hd1,hk1⟩;have hc1:=hd1.c1;have HD1:Hid _:=hd1;have HK1:Hid _:=hk1;clear hd1 hk1)
 have HI0:Hid (y7 w w1 bd S {D with fuse:=qj D.fuse} ba pa bc pc):=⟨HD1.out,HK1.out.mono (fun k hk=>by rw [hk];exact HD1.out.bdS)⟩
 clear hc1
 go_loopw [13] (fun t wr=>∃k:Nat,k≤D.ps.length∧t=.int .i64 k∧y7 w wr bd S {D with bs:=zj D.bs (D.ps.take k),fuse:=qj D.fuse} ba pa bc pc) (fun t _=>D.ps.length-(intOf t).toNat)
 case atStart=>exact⟨0,Nat.zero_le _,rfl,HI0.out⟩
 case round=>
  obtain⟨k,hk,rfl,hinv⟩:=hrel
  have HV:Hid (y7 w wr bd S {D with bs:=zj D.bs (D.ps.take k),fuse:=qj D.fuse} ba pa bc pc):=hinv
  clear hinv
  by_cases hlt2:k<D.ps.length
  ·obtain⟨g2,rfl⟩:=HH.out.prow (by omega)
   have HQI:Hid (D.ps[k].1<D.bs.length):=(HH.out.ok.ps _ (List.getElem_mem hlt2)).1
   obtain⟨g,rfl⟩:=HH.out.row (by have:=HQI.out;omega)
   have HP:Hid (wr.rangeAt g2 (k*129) (.int .i64 (D.ps[k].1:Int)::D.ps[k].2)):=HV.out.disk.prange k hlt2
   have HPO:Hid (zy D.ps[k].2):=(HH.out.ok.ps _ (List.getElem_mem hlt2)).2
   have HLS:Hid (zj D.bs (D.ps.take (k+1))=(zj D.bs (D.ps.take k)).set D.ps[k].1 D.ps[k].2):=cz D.bs D.ps k hlt2
   generalize hq:D.ps[k]=q at*
   obtain⟨qi,qb⟩:=q
   clear hq
   have HA:Hid (y7 w (wr.alloc (.cells (.int .i64 (qi:Int)::qb).toArray 133)) bd S {D with bs:=zj D.bs (D.ps.take k),fuse:=qj D.fuse} (some ⟨g,0,none⟩) (some ⟨g2,0,none⟩) bc pc):=HV.out.alloc _
   have hpl:(zj D.bs (D.ps.take k)).length=D.bs.length:=zB _ _
   have HPL:Hid ((zj D.bs (D.ps.take k)).length=D.bs.length):=hpl
   have hc0:(wr.alloc (.cells (.int .i64 (qi:Int)::qb).toArray 133)).cell? ⟨bd,0,none⟩=some (.slice (some ⟨g,0,none⟩) D.bs.length bc):=by rw [←hpl];exact HA.out.disk.c0
   have hth:(wr.alloc (.cells (.int .i64 (qi:Int)::qb).toArray 133)).there g (qi*128) 128:=HA.out.disk.bthere qi (by show qi<(zj D.bs (D.ps.take k)).length;rw [hpl];exact HQI.out)
   have hne1:bd≠g:=fun e=>HH.out.ap1 (by rw [←e];rfl)
   have hgl:g<wr.heap.size:=HV.out.disk.lt g ((HV.out.disk.own g).2 (.inr (.inl rfl)))
   have hbl:bd<wr.heap.size:=HV.out.disk.lt bd HV.out.disk.bdS
   have hne2:wr.heap.size≠g:=by omega
   clear hpl
   have hlt3:(k:Int)<(D.ps.length:Int):=by omega
   have hq0:(0:Int)≤(qi:Int):=by omega
   have hq1:(qi:Int)<(D.bs.length:Int):=by have:=HQI.out;simp only at this;omega
   have hcw:(wr.alloc (.cells (.int .i64 (qi:Int)::qb).toArray 133)).cell? ⟨wr.heap.size,0,none⟩=some (.int .i64 (qi:Int)):=by simp
   have hrw:(wr.alloc (.cells (.int .i64 (qi:Int)::qb).toArray 133)).rangeAt wr.heap.size 1 qb:=qJ (heap_alloc_new wr _)
   have hu:=Tryz.underlying131
   have hqb:qb.length=128:=HPO.out.1
   have hqo:∀v∈qb,v.oneCell'=true:=HPO.out.2
   have hsz:(Tryz.prog.info? 131).map (·.size)=some qb.length:=by rw [hqb];exact zS Tryz.infoBlock
   go_wp2_with (first
    |(refine wpList_load_mid rfl 133 (.tmp 15) rfl _ _ rfl (.int .i64 (qi:Int)::qb) _ HP.out Tryz.underlying133 rfl (by rw [List.length_cons,HPO.out.1];exact HIw.out) ?_)
    |(refine zg rfl 133 (.tmp 4) (.tmp 16) rfl _ _ (.int .i64 (qi:Int)::qb) rfl rfl rfl (by rw [List.length_cons,HPO.out.1];exact HIw.out) (by rw [List.length_cons,HPO.out.1];simpa using HZw.out) (List.forall_mem_cons.2 ⟨rfl,HPO.out.2⟩) ?_))
   generalize (wr.alloc (.cells (.int .i64 (qi:Int)::qb).toArray 133))=W at*
   go_region_held3 (fun w'=>w'.cell? ⟨bd,0,none⟩=some (.slice (some ⟨g,0,none⟩) D.bs.length bc)∧w'.cell? ⟨wr.heap.size,0,none⟩=some (.int .i64 (qi:Int))∧w'.rangeAt wr.heap.size 1 qb∧w'.there g (qi*128) 128)
    ((go_split_ands;simp only [World.rangeAt_drew,World.there_drew,World.cell?_drew] at *; refine⟨?_,?_,?_,?_⟩<;>first|assumption|(rw [World.cell?_setCells_out _ _ _ _ _ (by intro h1 _;simp at h1;omega)];assumption)|(refine World.rangeAt_setCells_apart (by assumption) _ _ _ (by omega))|(apply World.there_setCells;assumption)))
    (fail)
   go_wp2
   go_roundw
   case rel=>exact⟨k+1,by omega,by go_num,by rw [HLS.out];exact HA.out.drew.setb qi (by show qi<(zj D.bs (D.ps.take k)).length;rw [HPL.out];exact HQI.out) qb ⟨hqb,hqo⟩⟩
   case measure=>simp [intOf];omega
  ·have hge:¬(k:Int)<(D.ps.length:Int):=by omega
   have hc1:=HV.out.disk.c1
   have hf1:=HV.out.disk.fz 1
   go_wp2
   go_ret
   have hd:=HV.out.disk.nopend
   rw [show D.ps.take k=D.ps from List.take_of_length_le (by omega)] at hd
   refine⟨rfl,⟨_,⟨ba,none,bc,0,hd⟩,fun i hi=>?_⟩,HV.out.kept.trans (Kept.setCell (S:=S) wr ⟨bd,1,none⟩ _ HH.out.bdS) iL⟩
   rcases hi with rfl|hi
   ·exact HH.out.bdS
   ·refine(HV.out.disk.own i).2 (.inr (.inl ?_))
    rw [←hi];cases ba<;>rfl
theorem Qj(w:World)(bd:Nat)(S:Nat→Prop)(D:Dk)(ba pa:Option Addr)(bc pc:Nat)(h:zi w bd S D ba pa bc pc)(hfu:zD D.fuse)(hdead:(D.fuse==0)=true):
 Calls Tryz.prog 40 #[.pointer (some ⟨bd,0,none⟩)] w fun e w'=>e=.returned (.bool false)∧zh w' bd S D∧Kept S w w':=by
 have HH:Hid (zi w bd S D ba pa bc pc):=h
 have he:D.fuse=0:=by simpa using hdead
 have HE:Hid (D.fuse=0):=he
 clear he h
 go_enter Tryz.func40,Tryz.ntmps40
 go_wp2_with (go_at_call 65;refine(vm _ bd S D ba pa bc pc HH.out hfu).mono ?_;rintro e w1 ⟨rfl,hd1,hk1⟩;have HD1:Hid _:=hd1;have HK1:Hid _:=hk1;clear hd1 hk1)
 go_ret
 refine⟨rfl,⟨ba,pa,bc,pc,?_⟩,HK1.out.mono (fun k hk=>by rw [hk];exact HD1.out.bdS)⟩
 have hd:=HD1.out
 rw [HE.out] at hd
 have e0:({D with fuse:=qj 0}:Dk)=D:=by
  have:=HE.out
  cases D;simp only at this;subst this;rfl
 rw [e0] at hd
 exact hd
def Dk.flush(D:Dk):Dk:=if D.fuse=0 then D else {D with bs:=zj D.bs D.ps,ps:=[],fuse:=qj D.fuse}
theorem yc(w:World)(bd:Nat)(S:Nat→Prop)(D:Dk)(h:zh w bd S D)(hfu:zD D.fuse):
 Calls Tryz.prog 40 #[.pointer (some ⟨bd,0,none⟩)] w fun e w'=>
  e=.returned (.bool (!(D.fuse==0)))∧(∃S',zh w' bd S' D.flush∧∀k,S' k→S k)∧Kept S w w':=by
 obtain⟨ba,pa,bc,pc,h⟩:=h
 by_cases hf:D.fuse=0
 ·rw [show (D.fuse==0)=true by simpa using hf,show D.flush=D from if_pos hf]
  exact(Qj w bd S D ba pa bc pc h hfu (by simpa using hf)).mono fun e w' ⟨h1,h2,h3⟩=>⟨h1,⟨S,h2,fun _ hk=>hk⟩,h3⟩
 ·rw [show (D.fuse==0)=false by simpa using hf,show D.flush={D with bs:=zj D.bs D.ps,ps:=[],fuse:=qj D.fuse} from if_neg hf]
  exact jv w bd S D ba pa bc pc h hfu (by simpa using hf)
def xO:List (Nat×List Value)→List Bool→List (Nat×List Value)
 |[],_=>[]
 |p::ps,ks=>if ks.headD false then p::xO ps ks.tail else xO ps ks.tail
theorem cA:∀(ps:List (Nat×List Value)) (ks:List Bool) (k:Nat) (hk:k<ps.length),xO (ps.take (k+1)) ks=xO (ps.take k) ks++if ks.getD k false then [ps[k]] else []
 |[],_,_,hk=>by simp at hk
 |p::ps,ks,0,_=>by
  simp only [Nat.zero_add,List.take_succ_cons,List.take_zero,xO,List.nil_append,List.getElem_cons_zero]
  cases ks<;>rfl
 |p::ps,ks,k+1,hk=>by
  have ih:=cA ps ks.tail k (by simpa using hk)
  have e:ks.tail.getD k false=ks.getD (k+1) false:=by cases ks<;>simp
  simp only [List.take_succ_cons,xO,List.getElem_cons_succ]
  rw [ih,e]
  split<;>simp
theorem gi:∀(ps:List (Nat×List Value)) (ks:List Bool) p,p∈xO ps ks→p∈ps
 |[],_,p,h=>by simp [xO] at h
 |q::ps,ks,p,h=>by
  unfold xO at h
  split at h
  ·rcases List.mem_cons.1 h with rfl|h
   ·exact List.mem_cons_self ..
   ·exact List.mem_cons_of_mem _ (gi ps _ p h)
  ·exact List.mem_cons_of_mem _ (gi ps _ p h)
theorem fU(bs:List (List Value))(ps qs:List (Nat×List Value)):zj bs (ps++qs)=zj (zj bs ps) qs:=by unfold zj;rw [List.foldl_append]
theorem Kp(w:World)(bd:Nat)(S:Nat→Prop)(D:Dk)(ba pa:Option Addr)(bc pc:Nat)(h:zi w bd S D ba pa bc pc)(ka:Option Addr)(ks:List Bool)(kc:Nat)(hkl:ks.length≤9223372036854775807)
 (hks:∀j,j<ks.length→∃kb ko,ka=some ⟨kb,ko,none⟩∧¬S kb∧kb<w.heap.size∧w.cell? ⟨kb,ko+j,none⟩=some (.bool (ks.getD j false))):
 Calls Tryz.prog 41 #[.pointer (some ⟨bd,0,none⟩),.slice ka ks.length kc] w fun e w'=>
  e=.returned (.tuple #[])∧(∃S',zh w' bd S' {D with bs:=zj D.bs (xO D.ps ks),ps:=[],fuse:= -1}∧∀k,S' k→S k)∧Kept S w w':=by
 obtain⟨Zw,hZw,hzw⟩:∃Zw:List Value,Zw=qU∧∀w,(zeroValue 133).run Tryz.prog w=.ok (.agg Zw.toArray) w:=⟨qU,rfl,zV Tryz.infoWrite⟩
 have HZw:Hid (Zw.length=129):=by rw [hZw];exact congrArg (· +1) zF.1
 clear hZw
 have hps:=h.len
 have HKS:Hid (∀j,j<ks.length→∃kb ko,ka=some ⟨kb,ko,none⟩∧¬S kb∧kb<w.heap.size∧w.cell? ⟨kb,ko+j,none⟩=some (.bool (ks.getD j false))):=hks
 have HH:Hid (zi w bd S D ba pa bc pc):=h
 have HIw:Hid ((Tryz.prog.info? 133).map (·.size)=some 129):=zS Tryz.infoWrite
 have hc1:=h.c1
 have HI0:Hid (y7 w w bd S D ba pa bc pc):=⟨h,Kept.refl S w⟩
 clear h hks
 go_enter Tryz.func41,Tryz.ntmps41
 go_wp2
 clear hc1
 go_loopw [11] (fun t wr=>∃k:Nat,k≤D.ps.length∧t=.int .i64 k∧y7 w wr bd S {D with bs:=zj D.bs (xO (D.ps.take k) ks)} ba pa bc pc) (fun t _=>D.ps.length-(intOf t).toNat)
 case atStart=>exact⟨0,Nat.zero_le _,rfl,HI0.out⟩
 case round=>
  obtain⟨k,hk,rfl,hinv⟩:=hrel
  have HV:Hid (y7 w wr bd S {D with bs:=zj D.bs (xO (D.ps.take k) ks)} ba pa bc pc):=hinv
  clear hinv
  by_cases hlt2:k<D.ps.length
  ·obtain⟨g2,rfl⟩:=HH.out.prow (by omega)
   have HQI:Hid (D.ps[k].1<D.bs.length):=(HH.out.ok.ps _ (List.getElem_mem hlt2)).1
   obtain⟨g,rfl⟩:=HH.out.row (by have:=HQI.out;omega)
   have HP:Hid (wr.rangeAt g2 (k*129) (.int .i64 (D.ps[k].1:Int)::D.ps[k].2)):=HV.out.disk.prange k hlt2
   have HPO:Hid (zy D.ps[k].2):=(HH.out.ok.ps _ (List.getElem_mem hlt2)).2
   have HLS:Hid (xO (D.ps.take (k+1)) ks=xO (D.ps.take k) ks++if ks.getD k false then [D.ps[k]] else []):=cA D.ps ks k hlt2
   generalize hq:D.ps[k]=q at*
   obtain⟨qi,qb⟩:=q
   clear hq
   have HA:Hid (y7 w (wr.alloc (.cells (.int .i64 (qi:Int)::qb).toArray 133)) bd S {D with bs:=zj D.bs (xO (D.ps.take k) ks)} (some ⟨g,0,none⟩) (some ⟨g2,0,none⟩) bc pc):=HV.out.alloc _
   have hqb:qb.length=128:=HPO.out.1
   have hqo:∀v∈qb,v.oneCell'=true:=HPO.out.2
   have hlt3:(k:Int)<(D.ps.length:Int):=by omega
   by_cases hkk:k<ks.length
   ·have hkk2:(k:Int)<(ks.length:Int):=by omega
    obtain⟨kb,ko,rfl,hnS,hkb,hcell⟩:=HKS.out k hkk
    have hcell2:(wr.alloc (.cells (.int .i64 (qi:Int)::qb).toArray 133)).cell? ⟨kb,ko+k,none⟩=some (.bool (ks.getD k false)):=(HA.out.kept.cell (a:=⟨kb,ko+k,none⟩) hkb hnS).trans hcell
    have HNS:Hid (¬S kb):=hnS
    clear hcell hnS hkb
    cases hkv:ks.getD k false
    ·rw [hkv] at hcell2
     have HL2:Hid (xO (D.ps.take (k+1)) ks=xO (D.ps.take k) ks):=by
      show xO (D.ps.take (k+1)) ks=xO (D.ps.take k) ks
      rw [HLS.out,hkv];simp
     clear hkv
     go_wp2_with (first
      |(refine wpList_load_mid rfl 133 (.tmp 14) rfl _ _ rfl (.int .i64 (qi:Int)::qb) _ HP.out Tryz.underlying133 rfl (by rw [List.length_cons,HPO.out.1];exact HIw.out) ?_)
      |(refine zg rfl 133 (.tmp 5) (.tmp 15) rfl _ _ (.int .i64 (qi:Int)::qb) rfl rfl rfl (by rw [List.length_cons,HPO.out.1];exact HIw.out) (by rw [List.length_cons,HPO.out.1];simpa using HZw.out) (List.forall_mem_cons.2 ⟨rfl,HPO.out.2⟩) ?_))
     go_roundw
     case rel=>exact⟨k+1,by omega,by go_num,by rw [HL2.out];exact HA.out⟩
     case measure=>simp [intOf];omega
    ·rw [hkv] at hcell2
     have HL2:Hid (zj D.bs (xO (D.ps.take (k+1)) ks)=(zj D.bs (xO (D.ps.take k) ks)).set qi qb):=by
      show zj D.bs (xO (D.ps.take (k+1)) ks)=(zj D.bs (xO (D.ps.take k) ks)).set qi qb
      rw [HLS.out,hkv,fU];rfl
     clear hkv
     have hpl:(zj D.bs (xO (D.ps.take k) ks)).length=D.bs.length:=zB _ _
     have HPL:Hid ((zj D.bs (xO (D.ps.take k) ks)).length=D.bs.length):=hpl
     have hc0:(wr.alloc (.cells (.int .i64 (qi:Int)::qb).toArray 133)).cell? ⟨bd,0,none⟩=some (.slice (some ⟨g,0,none⟩) D.bs.length bc):=by rw [←hpl];exact HA.out.disk.c0
     have hth:(wr.alloc (.cells (.int .i64 (qi:Int)::qb).toArray 133)).there g (qi*128) 128:=HA.out.disk.bthere qi (by show qi<(zj D.bs (xO (D.ps.take k) ks)).length;rw [hpl];exact HQI.out)
     have hne1:bd≠g:=fun e=>HH.out.ap1 (by rw [←e];rfl)
     have hgl:g<wr.heap.size:=HV.out.disk.lt g ((HV.out.disk.own g).2 (.inr (.inl rfl)))
     have hbl:bd<wr.heap.size:=HV.out.disk.lt bd HV.out.disk.bdS
     have hne2:wr.heap.size≠g:=by omega
     clear hpl
     have hq0:(0:Int)≤(qi:Int):=by omega
     have hq1:(qi:Int)<(D.bs.length:Int):=by have:=HQI.out;simp only at this;omega
     have hcw:(wr.alloc (.cells (.int .i64 (qi:Int)::qb).toArray 133)).cell? ⟨wr.heap.size,0,none⟩=some (.int .i64 (qi:Int)):=by simp
     have hrw:(wr.alloc (.cells (.int .i64 (qi:Int)::qb).toArray 133)).rangeAt wr.heap.size 1 qb:=qJ (heap_alloc_new wr _)
     have hu:=Tryz.underlying131
     have hsz:(Tryz.prog.info? 131).map (·.size)=some qb.length:=by rw [hqb];exact zS Tryz.infoBlock
     go_wp2_with (first
      |(refine wpList_load_mid rfl 133 (.tmp 14) rfl _ _ rfl (.int .i64 (qi:Int)::qb) _ HP.out Tryz.underlying133 rfl (by rw [List.length_cons,HPO.out.1];exact HIw.out) ?_)
      |(refine zg rfl 133 (.tmp 5) (.tmp 15) rfl _ _ (.int .i64 (qi:Int)::qb) rfl rfl rfl (by rw [List.length_cons,HPO.out.1];exact HIw.out) (by rw [List.length_cons,HPO.out.1];simpa using HZw.out) (List.forall_mem_cons.2 ⟨rfl,HPO.out.2⟩) ?_))
     generalize (wr.alloc (.cells (.int .i64 (qi:Int)::qb).toArray 133))=W at*
     clear hcell2
     go_region_held3 (fun w'=>w'.cell? ⟨bd,0,none⟩=some (.slice (some ⟨g,0,none⟩) D.bs.length bc)∧w'.cell? ⟨wr.heap.size,0,none⟩=some (.int .i64 (qi:Int))∧w'.rangeAt wr.heap.size 1 qb∧w'.there g (qi*128) 128)
      ((go_split_ands;simp only [World.rangeAt_drew,World.there_drew,World.cell?_drew] at *; refine⟨?_,?_,?_,?_⟩<;>first|assumption|(rw [World.cell?_setCells_out _ _ _ _ _ (by intro h1 _;simp at h1;omega)];assumption)|(refine World.rangeAt_setCells_apart (by assumption) _ _ _ (by omega))|(apply World.there_setCells;assumption)))
      (fail)
     go_wp2
     go_roundw
     case rel=>exact⟨k+1,by omega,by go_num,by rw [HL2.out];exact HA.out.drew.setb qi (by show qi<(zj D.bs (xO (D.ps.take k) ks)).length;rw [HPL.out];exact HQI.out) qb ⟨hqb,hqo⟩⟩
     case measure=>simp [intOf];omega
   ·have hkk2:¬(k:Int)<(ks.length:Int):=by omega
    have HL2:Hid (xO (D.ps.take (k+1)) ks=xO (D.ps.take k) ks):=by
     show xO (D.ps.take (k+1)) ks=xO (D.ps.take k) ks
     rw [HLS.out,show ks.getD k false=false from by simp [Nat.le_of_not_lt hkk]];simp
    go_wp2_with (first
     |(refine wpList_load_mid rfl 133 (.tmp 14) rfl _ _ rfl (.int .i64 (qi:Int)::qb) _ HP.out Tryz.underlying133 rfl (by rw [List.length_cons,HPO.out.1];exact HIw.out) ?_)
     |(refine zg rfl 133 (.tmp 5) (.tmp 15) rfl _ _ (.int .i64 (qi:Int)::qb) rfl rfl rfl (by rw [List.length_cons,HPO.out.1];exact HIw.out) (by rw [List.length_cons,HPO.out.1];simpa using HZw.out) (List.forall_mem_cons.2 ⟨rfl,HPO.out.2⟩) ?_))
    go_roundw
    case rel=>exact⟨k+1,by omega,by go_num,by rw [HL2.out];exact HA.out⟩
    case measure=>simp [intOf];omega
  ·have hge:¬(k:Int)<(D.ps.length:Int):=by omega
   have hc1:=HV.out.disk.c1
   have hf1:=HV.out.disk.fz 1
   have hc2:=HV.out.disk.c2
   have hf2:=HV.out.disk.fz 2
   go_wp2
   go_end0
   have hd:=HV.out.disk.nopend.set_fuse (-1)
   rw [show D.ps.take k=D.ps from List.take_of_length_le (by omega)] at hd
   refine⟨rfl,⟨_,⟨ba,none,bc,0,hd⟩,fun i hi=>?_⟩,(HV.out.kept.trans (Kept.setCell (S:=S) wr ⟨bd,1,none⟩ _ HH.out.bdS) iL).trans (Kept.setCell (S:=S) _ ⟨bd,2,none⟩ _ HH.out.bdS) iL⟩
   rcases hi with rfl|hi
   ·exact HH.out.bdS
   ·refine(HV.out.disk.own i).2 (.inr (.inl ?_))
    rw [←hi];cases ba<;>rfl
end disk
end Go.Proofs.YtcoengihaobddaaGreatDoor

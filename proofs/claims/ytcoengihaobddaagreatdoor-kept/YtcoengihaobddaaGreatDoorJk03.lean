/- Part 3 of 34 of a proof: Disk9 -/
import Derived.Test.YtcoengihaobddaaGreatDoorJk02
set_option maxHeartbeats 8000000
set_option linter.unusedVariables false
set_option linter.unusedSimpArgs false
set_option maxRecDepth 8000
namespace Go.Proofs.YtcoengihaobddaaGreatDoor
namespace disk
open Go.ChangeShapes Go.WideShapes Go.ChangeAt Go.RowKit
attribute [local go_sem ↓] Go.wp_at_zero Go.wp_at_succ
theorem run_copy_row{P:Program}(w:World)(t ty e:TypeId)(i:TypeInfo)(z:Value)(size bytes:Nat)(ht:P.underlying t=some (.slice e))(hi:P.info? e=some i)(hz:i.zero=some z)
 (hsize:i.size=size) (hby:i.bytes=bytes) (hzs:z.cells.size=size) (hsz:0<size) (v:Value) (n:Nat) (xs:List Value) (hown:w.ownsRow 0 e size v n xs) (h1:∀u∈xs,u.oneCell'=true)
 (h63:n≤maxLen) (hbytes:n*bytes≤140737488355328):
 ∃a c w',(Builtin.append_ #[t,t] ty #[.slice none 0 0,v]).run P w=.ok (.slice a n c) w'∧w'.ownsRow 0 e size (.slice a n c) n xs∧w.grownBy w' none∧
  ((Value.slice a n c).ownBlock=none∨(Value.slice a n c).ownBlock=some w.heap.size):=by
 rcases hown.2 with⟨rfl,rfl⟩|⟨g,cap,cur,rfl,hb,hg,rest⟩
 ·obtain rfl:xs=[]:=List.eq_nil_of_length_eq_zero (by simpa using hown.1)
  refine⟨none,0,w,?_,World.ownsRow_nil w 0 e size,⟨rfl,rfl,rfl,Nat.le_refl _,fun _ _ _=>rfl⟩,.inl rfl⟩
  simp [Builtin.append_,run_underlying ht,sizeOf,typeInfo,hi,Builtin.lenOf,Builtin.firstCells]
 ·obtain⟨v',w',hr,h2,h3,_,h5⟩:=run_append_own_at (P:=P) w 0 t ty e i z size bytes ht hi hz hsize hby hzs hsz (.slice none 0 0) 0 [] (World.ownsRow_nil w 0 e size) ⟨g,0,none⟩ n cap xs hown.1 (hown.cells (g:=g) rfl) h1 (by simpa using h63) (by simpa using hbytes) (Nat.zero_le _)
  simp only [Nat.zero_add,List.nil_append] at h2
  have h5':v'.ownBlock=none∨v'.ownBlock=some w.heap.size:=h5
  rcases h2.2 with⟨e1,e2⟩|⟨g',cap',cur',e1,_⟩
  ·subst e1;subst e2;exact⟨none,0,w',hr,h2,h3,h5'⟩
  ·subst e1;exact⟨_,cap',w',hr,h2,h3,h5'⟩
theorem x8{P:Program}{ops:Array Oper}{o:Oper}{a:Act}{w:World}{K:Act→World→Prop}{Q:Exit→Act→World→Prop}{E:Prop}(hgd:o.guard=none)(s x:Operand)(t:TypeId)
 (ho:o.op=.call {callee:=.builtin .append,args:=#[s,x],argTypes:=#[t,t] })
 (e:TypeId) (i:TypeInfo) (z:Value) (size bytes:Nat) (ht:P.underlying t=some (.slice e)) (hi:P.info? e=some i) (hz:i.zero=some z)
 (hsize:i.size=size) (hby:i.bytes=bytes) (hzs:z.cells.size=size) (hsz:0<size) (v:Value) (n:Nat) (xs:List Value) (hs:a.eval s=.slice none 0 0) (hx:a.eval x=v) (hown:w.ownsRow 0 e size v n xs) (h1:∀u∈xs,u.oneCell'=true)
 (h63:n≤maxLen) (hbytes:n*bytes≤140737488355328)
 (h:∀a' c' w',w'.ownsRow 0 e size (.slice a' n c') n xs→w.grownBy w' none→((Value.slice a' n c').ownBlock=none∨(Value.slice a' n c').ownBlock=some w.heap.size)→K (a.put o.dst (.slice a' n c')) w'):
 if Region.wanted o (yielded ops a.tmps)=true then Oper.wp P o a w K Q else E:=by
 have hw:Region.wanted o (yielded ops a.tmps)=true:=by simp [Region.wanted,hgd]
 rw [if_pos hw]
 obtain⟨a',c',w',hr,h2,h3,h4⟩:=run_copy_row (P:=P) w t o.type e i z size bytes ht hi hz hsize hby hzs hsz v n xs hown h1 h63 hbytes
 unfold Oper.wp execOp
 simp only [ho,resolve,invoke,builtin,Sem.run_bind,Sem.run_pure,Result.andThen_ok,List.map_toArray,List.map_cons,List.map_nil,hs,hx,hr]
 exact h a' c' w' h2 h3 h4
theorem zi.copied{w w2 w4:World}{bd:Nat}{S:Nat→Prop}{D:Dk}{ba pa:Option Addr}{bc pc:Nat}(h:zi w bd S D ba pa bc pc)(a1 a2:Option Addr)(c1 c2:Nat)
 (hown1:w2.ownsRow 0 131 128 (.slice a1 D.bs.length c1) D.bs.length D.bs.flatten)
 (hgrow1:(w.alloc (.cells #[.slice none 0 0,.slice none 0 0,.int .i64 D.fuse,.int .i64 0] 118)).drew.grownBy w2 none)
 (hat1:(Value.slice a1 D.bs.length c1).ownBlock=none∨(Value.slice a1 D.bs.length c1).ownBlock=some (w.heap.size+1))
 (hown2:w4.ownsRow 0 133 129 (.slice a2 D.ps.length c2) D.ps.length (D.ps.map zM).flatten)
 (hgrow2:(w2.setCell ⟨w.heap.size,0,none⟩ (.slice a1 D.bs.length c1)).drew.grownBy w4 none)
 (hat2:(Value.slice a2 D.ps.length c2).ownBlock=none∨(Value.slice a2 D.ps.length c2).ownBlock=some w2.heap.size):
 zi (w4.setCell ⟨w.heap.size,1,none⟩ (.slice a2 D.ps.length c2)) w.heap.size
  (fun k=>k=w.heap.size∨(Value.slice a1 D.bs.length c1).ownBlock=some k∨(Value.slice a2 D.ps.length c2).ownBlock=some k) {D with reads:=0} a1 a2 c1 c2∧
  (∀k,(k=w.heap.size∨(Value.slice a1 D.bs.length c1).ownBlock=some k∨(Value.slice a2 D.ps.length c2).ownBlock=some k)→w.heap.size≤k)∧
  Kept (fun _=>False) w (w4.setCell ⟨w.heap.size,1,none⟩ (.slice a2 D.ps.length c2)):=by
 have s2:=hgrow1.size
 simp at s2
 have s4:=hgrow2.size
 simp at s4
 have k2:Kept (fun _=>False) (w.alloc (.cells #[.slice none 0 0,.slice none 0 0,.int .i64 D.fuse,.int .i64 0] 118)).drew w2:=Kept.grown hgrow1 (fun k hk=>by cases hk)
 have k3:Kept (fun k=>k=w.heap.size) w2 (w2.setCell ⟨w.heap.size,0,none⟩ (.slice a1 D.bs.length c1)):=Kept.setCell _ _ _ rfl
 have k4:Kept (fun _=>False) (w2.setCell ⟨w.heap.size,0,none⟩ (.slice a1 D.bs.length c1)).drew w4:=Kept.grown hgrow2 (fun k hk=>by cases hk)
 have k5:Kept (fun k=>k=w.heap.size) w4 (w4.setCell ⟨w.heap.size,1,none⟩ (.slice a2 D.ps.length c2)):=Kept.setCell _ _ _ rfl
 have e1:∀k,(Value.slice a1 D.bs.length c1).ownBlock=some k→k=w.heap.size+1∧k<w2.heap.size:=fun k hk=>⟨by
  rcases hat1 with e|e<;>rw [e] at hk<;>simp at hk;omega,(hown1.lt k hk).2⟩
 have e2:∀k,(Value.slice a2 D.ps.length c2).ownBlock=some k→k=w2.heap.size:=fun k hk=>by
  rcases hat2 with e|e<;>rw [e] at hk<;>simp at hk;omega
 have b2:w2.heap[w.heap.size]? =some (.cells #[.slice none 0 0,.slice none 0 0,.int .i64 D.fuse,.int .i64 0] 118):=
  (k2.block w.heap.size (by simp) (fun hf=>hf)).trans (heap_alloc_new w _)
 have b3:(w2.setCell ⟨w.heap.size,0,none⟩ (.slice a1 D.bs.length c1)).heap[w.heap.size]? =some (.cells #[.slice a1 D.bs.length c1,.slice none 0 0,.int .i64 D.fuse,.int .i64 0] 118):=by
  rw [heap_setCell_same w2 w.heap.size 0 _ _ _ b2];rfl
 have b4:w4.heap[w.heap.size]? =some (.cells #[.slice a1 D.bs.length c1,.slice none 0 0,.int .i64 D.fuse,.int .i64 0] 118):=
  (k4.block w.heap.size (by simp;omega) (fun hf=>hf)).trans b3
 refine⟨⟨⟨h.ok.bs,h.ok.ps,h.ok.few⟩,?_,?_,?_,fun k=>Iff.rfl,?_,?_,?_⟩,?_,?_⟩
 ·rw [heap_setCell_same w4 w.heap.size 1 _ _ _ b4];rfl
 ·exact k5.owns (k4.owns (k3.owns hown1 (fun k hk e=>by have:=(e1 k hk).1;omega)) nF) (fun k hk e=>by have:=(e1 k hk).1;omega)
 ·exact k5.owns hown2 (fun k hk e=>by have:=e2 k hk;omega)
 ·intro hk;have:=(e1 _ hk).1;omega
 ·intro hk;have:=e2 _ hk;omega
 ·intro k hk hk2;have:=(e1 k hk).2;have:=e2 k hk2;omega
 ·intro k hk
  rcases hk with rfl|hk|hk
  ·exact Nat.le_refl _
  ·have:=(e1 k hk).1;omega
  ·have:=e2 k hk;omega
 ·exact((((((Kept.alloc _ w _).trans (Kept.drew _ _) iL).trans k2 iL).trans k3 (fun k hk=>.inr (by omega))).trans (Kept.drew (fun _=>False) _) iL).trans k4 iL).trans k5 (fun k hk=>.inr (by omega))
theorem Dk.Ok.one_bs{D:Dk}(h:D.Ok):∀u∈D.bs.flatten,u.oneCell'=true:=fun u hu=>by
 obtain⟨b,hb,hu⟩:=List.mem_flatten.1 hu
 exact(h.bs b hb).2 u hu
theorem Dk.Ok.one_ps{D:Dk}(h:D.Ok):∀u∈(D.ps.map zM).flatten,u.oneCell'=true:=fun u hu=>by
 obtain⟨b,hb,hu⟩:=List.mem_flatten.1 hu
 obtain⟨p,hp,rfl⟩:=List.mem_map.1 hb
 rcases List.mem_cons.1 hu with rfl|hu
 ·rfl
 ·exact(h.ps p hp).2.2 u hu
theorem Kq(w:World)(bd:Nat)(S:Nat→Prop)(D:Dk)(ba pa:Option Addr)(bc pc:Nat)(h:zi w bd S D ba pa bc pc)(hps:D.ps.length≤68719476736):
 Calls Tryz.prog 34 #[.pointer (some ⟨bd,0,none⟩)] w fun e w'=>
  e=.returned (.pointer (some ⟨w.heap.size,0,none⟩))∧(∃S',zh w' w.heap.size S' {D with reads:=0}∧∀k,S' k→w.heap.size≤k)∧Kept (fun _=>False) w w':=by
 have hc0:=h.c0
 have hc1:=h.c1
 have hc2:=h.c2
 have hbd:=h.lt bd h.bdS
 have hbs:=h.ok.few
 have HH:Hid (zi w bd S D ba pa bc pc):=h
 obtain⟨i0,hi0,hz0,hz1,hz2⟩:=info_parts Tryz.infoBlock
 have HI0:Hid (Tryz.prog.info? 131=some i0∧i0.zero=some (.agg zT.toArray)∧i0.size=128∧i0.bytes=128):=⟨hi0,hz0,hz1,hz2⟩
 clear hi0 hz0 hz1 hz2
 obtain⟨j0,hi0,hz0,hz1,hz2⟩:=info_parts Tryz.infoWrite
 have HJ0:Hid (Tryz.prog.info? 133=some j0∧j0.zero=some (.agg qU.toArray)∧j0.size=129∧j0.bytes=136):=⟨hi0,hz0,hz1,hz2⟩
 clear hi0 hz0 hz1 hz2 h
 have hne:w.heap.size≠bd:=by omega
 have H1:Hid (zi (w.alloc (.cells #[.slice none 0 0,.slice none 0 0,.int .i64 D.fuse,.int .i64 0] 118)).drew bd S D ba pa bc pc):=
  HH.out.kept ((Kept.alloc (fun _=>False) w _).trans (Kept.drew _ _) iL) nF
 go_enter Tryz.func34,Tryz.ntmps34
 go_wp2
 go_region_law ((refine x8 rfl (.tmp 14) (.tmp 18) 115 rfl 131 i0 _ 128 128 Tryz.underlying115 HI0.out.1 HI0.out.2.1 HI0.out.2.2.1 HI0.out.2.2.2 zF.1 (by omega) _ D.bs.length D.bs.flatten (by rfl) (by rfl) (by exact H1.out.rows) HH.out.ok.one_bs (by unfold maxLen;omega) (by omega) ?_;intro a1 c1 w2 hown1 hgrow1 hat1;have HG1:Hid _:=hgrow1;have HO1:Hid _:=hown1;have HA1:Hid _:=hat1;have hb2:w2.heap[w.heap.size]? =some (.cells #[.slice none 0 0,.slice none 0 0,.int .i64 D.fuse,.int .i64 0] 118):=(hgrow1.block w.heap.size (by simp) (by simp)).trans (heap_alloc_new w _);have hcN0:=cell_of_row w2 w.heap.size 0 _ _ _ hb2;have hcN1:=cell_of_row w2 w.heap.size 1 _ _ _ hb2;have hfN0:=frozen_of_row w2 w.heap.size 0 _ _ hb2;have hfN1:=frozen_of_row w2 w.heap.size 1 _ _ hb2;have hcb1:w2.cell? ⟨bd,1,none⟩=some (.slice pa D.ps.length pc):=(hgrow1.cell_far ⟨bd,1,none⟩ (by simp;omega) (by simp)).trans H1.out.c1;have HP2:Hid ((w2.setCell ⟨w.heap.size,0,none⟩ (.slice a1 D.bs.length c1)).drew.ownsRow 0 133 129 (.slice pa D.ps.length pc) D.ps.length (D.ps.map zM).flatten):=(Kept.drew (fun _=>False) _).owns ((Kept.setCell (S:=fun k=>k=w.heap.size) w2 ⟨w.heap.size,0,none⟩ _ rfl).owns ((Kept.grown (S:=fun _=>False) hgrow1 (fun k hk=>by cases hk)).owns H1.out.pend nF) (fun k hk e=>by have:=HH.out.lt k ((HH.out.own k).2 (.inr (.inr hk)));omega)) nF;have hw2:w.heap.size<w2.heap.size:=by {have:=hgrow1.size;simp at this;omega};clear hgrow1 hown1 hat1 hb2))
 all_goals
  go_wp2
  go_region_law ((refine x8 rfl (.tmp 26) (.tmp 30) 116 rfl 133 j0 _ 129 136 Tryz.underlying116 HJ0.out.1 HJ0.out.2.1 HJ0.out.2.2.1 HJ0.out.2.2.2 (congrArg (· +1) zF.1) (by omega) _ D.ps.length (D.ps.map zM).flatten (by rfl) (by rfl) (by exact HP2.out) HH.out.ok.one_ps (by unfold maxLen;omega) (by omega) ?_;intro a2 c2 w4 hown2 hgrow2 hat2;have HG2:Hid _:=hgrow2;have HO2:Hid _:=hown2;have HA2:Hid _:=hat2;have hcM1:w4.cell? ⟨w.heap.size,1,none⟩=some (.slice none 0 0):=(hgrow2.cell_far ⟨w.heap.size,1,none⟩ (by simp;omega) (by simp)).trans (by simp [World.cell?_setCell_other,hcN1]);have hfM1:w4.frozen? ⟨w.heap.size,1,none⟩=false:=(hgrow2.frozen_far ⟨w.heap.size,1,none⟩ (by simp;omega) (by simp)).trans (by simp [hfN1]);clear hgrow2 hown2 hat2))
  all_goals
   go_wp2
   go_ret
   obtain⟨r1,r2,r3⟩:=HH.out.copied a1 a2 c1 c2 HO1.out HG1.out (by have:=HA1.out;simpa using this) HO2.out HG2.out (by have:=HA2.out;simpa using this)
   exact⟨rfl,⟨_,⟨a1,a2,c1,c2,r1⟩,r2⟩,r3⟩
end disk
end Go.Proofs.YtcoengihaobddaaGreatDoor

/- Part 28 of 34 of a proof: Rem3, Fre3, Fre4, Fre5, Fre6, Rem4, Rem5 -/
import Derived.Test.YtcoengihaobddaaGreatDoorJk27
set_option maxHeartbeats 8000000
set_option linter.unusedVariables false
set_option linter.unusedSimpArgs false
set_option maxRecDepth 8000
namespace Go.Proofs.YtcoengihaobddaaGreatDoor
namespace prog
open Go.ChangeShapes Go.WideShapes Go.ChangeAt Go.RowKit disk ref
open keys (ze zd zr zn)
theorem dM(w:World)(k:Nat)(hk:k=4∨k=5)(a:Option Addr)(n cap:Nat):
 Calls Tryz.prog 182 #[.agg #[.int .u8 (k:Int),.slice a n cap]] w fun e w'=>e=.returned (.bool (decide ((n:Int)<3)))∧Kept (fun _=>False) w w':=by
 have HK0:Hid (Kept (fun _=>False) w (w.alloc (.cells #[.int .u8 (k:Int),.slice a n cap] 209))):=Kept.alloc _ _ _
 have HB:Hid ((w.alloc (.cells #[.int .u8 (k:Int),.slice a n cap] 209)).heap[w.heap.size]? =some (.cells #[.int .u8 (k:Int),.slice a n cap] 209 (0,0))):=heap_alloc_new w _
 have c0:(w.alloc (.cells #[.int .u8 (k:Int),.slice a n cap] 209)).cell? ⟨w.heap.size,0,none⟩=some (.int .u8 (k:Int)):=cR HB.out rfl
 have c1:(w.alloc (.cells #[.int .u8 (k:Int),.slice a n cap] 209)).cell? ⟨w.heap.size,1,none⟩=some (.slice a n cap):=cR HB.out rfl
 have HR:Hid (((room k:Nat):Int)=6):=by
  show ((room k:Nat):Int)=6
  rcases hk with rfl|rfl<;>decide
 have hk6:k≤6:=by omega
 go_enter Tryz.func182,Tryz.ntmps182
 go_wp2_with fail
 generalize (w.alloc (.cells #[.int .u8 (k:Int),.slice a n cap] 209))=W at*
 go_region_held3 (fun w'=>w'.cell? ⟨w.heap.size,0,none⟩=some (.int .u8 (k:Int))∧w'.cell? ⟨w.heap.size,1,none⟩=some (.slice a n cap)) (go_keep) ((go_at_call 129;refine(jh _ k hk6).mono ?_;rintro e w1 ⟨rfl,hw1⟩;rw [hw1,HR.out];clear hw1 w1))
 go_wp2
 go_ret
 exact⟨rfl,HK0.out.trans (Kept.drew (fun _=>False) W) iL⟩
def vg(ws:List (Nat×List Value))(i:Int):List (Nat×List Value):=ws.filter fun p=> !decide ((p.1:Int)=i)
theorem uQ{ws:List (Nat×List Value)}{i:Int}{j:Nat}(hj:j<ws.length)(h:(ws[j].1:Int)=i):vg (ws.take (j+1)) i=vg (ws.take j) i:=by
 rw [List.take_succ_eq_append_getElem hj]
 unfold vg
 rw [List.filter_append,List.filter_cons_of_neg (by rw [h];simp),List.filter_nil,List.append_nil]
theorem bV{ws:List (Nat×List Value)}{i:Int}{j:Nat}(hj:j<ws.length)(h:¬(ws[j].1:Int)=i):vg (ws.take (j+1)) i=vg (ws.take j) i++[ws[j]]:=by
 rw [List.take_succ_eq_append_getElem hj]
 unfold vg
 rw [List.filter_append,List.filter_cons_of_pos (by simpa using h),List.filter_nil]
theorem dN{ws:List (Nat×List Value)}{i:Int}{k:Nat}(h:qH ws i=some k):k<ws.length∧ws.take k=vg (ws.take (k+1)) i:=by
 unfold qH at h
 rw [List.findIdx?_eq_some_iff_getElem] at h
 obtain⟨hk,h1,h2⟩:=h
 refine⟨hk,?_⟩
 rw [uQ hk (by simpa using h1)]
 unfold vg
 rw [List.filter_eq_self.2]
 intro p hp
 obtain⟨j,hj,rfl⟩:=List.getElem_of_mem hp
 rw [List.length_take] at hj
 rw [List.getElem_take]
 simpa using h2 j (by omega)
structure vQ (w:World) (g cap:Nat) (ws:List (Nat×List Value)) (i:Int) (p j:Nat) (V:List (Nat×List Value)) (wr:World):Prop where
 pj:p<j
 jn:j≤ws.length
 len:V.length=ws.length
 front:V.take p=vg (ws.take j) i
 back:V.drop j=ws.drop j
 ok:∀q∈V,zy q.2
 row:wr.ownsRow 0 160 129 (.slice (some ⟨g,0,none⟩) ws.length cap) ws.length (V.map zM).flatten
 kept:Kept (fun k=>k=g) w wr
theorem vQ.wlen{w:World}{g cap:Nat}{ws:List (Nat×List Value)}{i:Int}{p j:Nat}{V:List (Nat×List Value)}{wr:World}(h:vQ w g cap ws i p j V wr):∀b∈V.map zM,b.length=129:=fun b hb=>by
 obtain⟨q,hq,rfl⟩:=List.mem_map.1 hb
 simp [zM,(h.ok q hq).1]
theorem vQ.at_{w:World}{g cap:Nat}{ws:List (Nat×List Value)}{i:Int}{p j:Nat}{V:List (Nat×List Value)}{wr:World}(h:vQ w g cap ws i p j V wr)(hj:j<ws.length):∃hv:j<V.length,V[j]=ws[j]:=by
 have hv:j<V.length:=by rw [h.len];exact hj
 refine⟨hv,?_⟩
 have h1:=congrArg (·[0]?) h.back
 simp only [List.getElem?_drop,Nat.add_zero] at h1
 rw [List.getElem?_eq_getElem hv,List.getElem?_eq_getElem hj] at h1
 exact Option.some.inj h1
theorem vQ.skip{w:World}{g cap:Nat}{ws:List (Nat×List Value)}{i:Int}{p j:Nat}{V:List (Nat×List Value)}{wr wr':World}(h:vQ w g cap ws i p j V wr)(hj:j<ws.length)(e:(ws[j].1:Int)=i)(k:Kept (fun _=>False) wr wr'):vQ w g cap ws i p (j+1) V wr' where
 pj:=by have:=h.pj;omega
 jn:=hj
 len:=h.len
 front:=by rw [uQ hj e];exact h.front
 back:=by have:=congrArg (List.drop 1) h.back;simpa [List.drop_drop,Nat.add_comm] using this
 ok:=h.ok
 row:=k.owns h.row nF
 kept:=h.kept.trans k fE
theorem vQ.move{w:World}{g cap:Nat}{ws:List (Nat×List Value)}{i:Int}{p j:Nat}{V:List (Nat×List Value)}{wr wr':World}(h:vQ w g cap ws i p j V wr)(hj:j<ws.length)(e:¬(ws[j].1:Int)=i)(k:Kept (fun _=>False) wr wr'):vQ w g cap ws i (p+1) (j+1) (V.set p ws[j]) (wr'.setCells g (p*129) (zM ws[j])) where
 pj:=by have:=h.pj;omega
 jn:=hj
 len:=by simp [h.len]
 front:=by
  have hp:p<V.length:=by have:=h.pj;rw [h.len];omega
  rw [bV hj e,←h.front,List.take_succ_eq_append_getElem (by simpa using hp),List.getElem_set_self,List.take_set_of_le (Nat.le_refl _)]
 back:=by
  rw [List.drop_set_of_lt (by have:=h.pj;omega)]
  have:=congrArg (List.drop 1) h.back
  simpa [List.drop_drop,Nat.add_comm] using this
 ok:=fun q hq=>by
  rcases List.mem_or_eq_of_mem_set hq with hq|rfl
  ·exact h.ok q hq
  ·obtain⟨hv,e1⟩:=h.at_ hj
   rw [←e1];exact h.ok _ (List.getElem_mem hv)
 row:=by
  obtain⟨hv,e1⟩:=h.at_ hj
  have hrow:=k.owns h.row nF
  rw [show ws.length=(V.map zM).length from by simp [h.len]] at hrow
  have h2:=gr hrow h.wlen p (by have:=h.pj;simp [h.len];omega) (zM ws[j]) (by rw [←e1];exact h.wlen _ (List.mem_map.2 ⟨_,List.getElem_mem hv,rfl⟩))
  rw [←List.map_set,show (V.map zM).length=ws.length from by simp [h.len]] at h2
  exact h2
 kept:=(h.kept.trans k fE).trans (Kept.setCells (S:=fun k=>k=g) g rfl _ _ _) iL
theorem bW(w:World)(bc bd:Nat)(T:Nat→Prop)(C:Ck)(a:Option Addr)(cap:Nat)(h:qm w bc bd T C a cap)(b:Nat)(i:Int)(hb:w.heap[b]? =some (.cells #[.int .i64 i] 3 (0,0)))(hx:qH C.ws i=none):
 Calls Tryz.prog 183 #[.slice a C.ws.length cap,.func (.func 184) #[] #[.pointer (some ⟨b,0,none⟩)]] w fun e w'=>e=.returned (.slice a C.ws.length cap)∧Kept (fun _=>False) w w':=by
 have HH:Hid _:=h
 have HB:Hid _:=hb
 have HX:Hid (qH C.ws i=none):=hx
 clear h hb hx
 go_enter Tryz.func183,Tryz.ntmps183
 go_wp2_with (go_at_call 201;refine(fF w bc bd T C a cap HH.out b i HB.out).mono ?_;rintro e w1 ⟨rfl,hk1⟩;rw [HX.out];have HK1:Hid _:=hk1;clear hk1;dsimp only [KU])
 go_ret
 exact⟨rfl,HK1.out⟩
theorem bY(w:World)(bc bd:Nat)(T:Nat→Prop)(C:Ck)(g cap:Nat)(h:qm w bc bd T C (some ⟨g,0,none⟩) cap)(b:Nat)(i:Int)(hb:w.heap[b]? =some (.cells #[.int .i64 i] 3 (0,0)))(hbg:b≠g)(k:Nat)(hx:qH C.ws i=some k):
 Calls Tryz.prog 183 #[.slice (some ⟨g,0,none⟩) C.ws.length cap,.func (.func 184) #[] #[.pointer (some ⟨b,0,none⟩)]] w fun e w'=>e=.returned (.slice (some ⟨g,0,none⟩) (vg C.ws i).length cap)∧w'.ownsRow 0 160 129 (.slice (some ⟨g,0,none⟩) (vg C.ws i).length cap) (vg C.ws i).length ((vg C.ws i).map zM).flatten∧Kept (fun j=>j=g) w w':=by
 obtain⟨Zw,hZw,hzw⟩:∃Zw:List Value,Zw=qU∧∀w,(zeroValue 160).run Tryz.prog w=.ok (.agg Zw.toArray) w:=⟨qU,rfl,zV Tryz.infoCw⟩
 have HZw:Hid (Zw.length=129):=by rw [hZw];exact congrArg (· +1) zF.1
 clear hZw
 have HIw:Hid ((Tryz.prog.info? 160).map (·.size)=some 129):=zS Tryz.infoCw
 obtain⟨hkn,hfr⟩:=dN hx
 have HFR:Hid (C.ws.take k=vg (C.ws.take (k+1)) i):=hfr
 have hfew:=h.few
 have HH:Hid _:=h
 have HB:Hid _:=hb
 have HX:Hid (qH C.ws i=some k):=hx
 clear h hb hx hfr
 go_enter Tryz.func183,Tryz.ntmps183
 have hk0:((k:Int)== -1)=false:=by simp
 go_wp2_with (go_at_call 201;refine(fF w bc bd T C _ cap HH.out b i HB.out).mono ?_;rintro e w1 ⟨rfl,hk1⟩;rw [HX.out];have HK1:Hid (Kept (fun _=>False) w w1):=hk1;clear hk1;dsimp only [KU])
 go_loopw [5,6] (fun t5 t6 wr=>∃(p j:Nat) (V:List (Nat×List Value)),t5=.int .i64 p∧t6=.int .i64 j∧vQ w g cap C.ws i p j V wr) (fun _ t6 _=>C.ws.length-(intOf t6).toNat)
 case atStart=>exact⟨k,k+1,C.ws,rfl,by go_num,by omega,hkn,rfl,HFR.out,rfl,HH.out.ok,HK1.out.owns HH.out.row nF,HK1.out.mono fE⟩
 case round=>
  obtain⟨p,j,V,rfl,rfl,hI⟩:=hrel
  have HI:Hid (vQ w g cap C.ws i p j V wr):=hI
  have hpj:=hI.pj
  have hjn:=hI.jn
  clear hI
  by_cases hlt:j<C.ws.length
  ·obtain⟨hv,hvj⟩:=HI.out.at_ hlt
   have HP:Hid (wr.rangeAt g (j*129) (.int .i64 (C.ws[j].1:Int)::C.ws[j].2)):=by
    have hp:=HI.out.row
    rw [show C.ws.length=(V.map zM).length from by simp [HI.out.len]] at hp
    have:=qI hp HI.out.wlen j (by simpa using hv)
    rw [List.getElem_map,hvj] at this
    exact this
   have HPO:Hid (zy C.ws[j].2):=HH.out.ok _ (List.getElem_mem hlt)
   have hbl:=(lT HB.out)
   have hsz:=HI.out.kept.size
   have HBW:Hid (wr.heap[b]? =some (.cells #[.int .i64 i] 3 (0,0))):=(HI.out.kept.block _ hbl hbg).trans HB.out
   have HMV:Hid (∀wr',¬(C.ws[j].1:Int)=i→Kept (fun _=>False) wr wr'→vQ w g cap C.ws i (p+1) (j+1) (V.set p C.ws[j]) (wr'.setCells g (p*129) (.int .i64 (C.ws[j].1:Int)::C.ws[j].2))):=fun wr' e k=>HI.out.move hlt e k
   have HSK:Hid (∀wr',(C.ws[j].1:Int)=i→Kept (fun _=>False) wr wr'→vQ w g cap C.ws i p (j+1) V wr'):=fun wr' e k=>HI.out.skip hlt e k
   have HTH:Hid (∀wr',Kept (fun _=>False) wr wr'→wr'.there g (p*129) 129):=fun wr' k=>by
    rcases (k.owns HI.out.row nF).2 with⟨h0,_⟩|⟨g',cap',cur,hv',_,hg,h1,h2,h3,h4⟩
    ·cases h0
    ·cases hv'
     intro m hm
     have hpc:p*129+m<cur.size:=by
      rw [h3]
      have:(p+1)*129≤cap*129:=Nat.mul_le_mul_right _ (by omega)
      omega
     refine⟨?_,frozen_of_row wr' g _ _ _ hg⟩
     rw [cell_of_row wr' g _ _ _ _ hg,Array.getElem?_eq_getElem hpc]
     rfl
   clear hvj
   generalize hq:C.ws[j]=q at*
   obtain⟨qi,qb⟩:=q
   clear hq
   simp only at HMV HSK HP HPO
   have HKA:Hid (Kept (fun _=>False) wr (wr.alloc (.cells (.int .i64 (qi:Int)::qb).toArray 160))):=Kept.alloc _ _ _
   have HRA:Hid ((wr.alloc (.cells (.int .i64 (qi:Int)::qb).toArray 160)).rangeAt wr.heap.size 0 (.int .i64 (qi:Int)::qb)):=zQ (heap_alloc_new wr _)
   have HBA:Hid ((wr.alloc (.cells (.int .i64 (qi:Int)::qb).toArray 160)).heap[b]? =some (.cells #[.int .i64 i] 3 (0,0))):=(HKA.out.block _ (by omega) id).trans HBW.out
   have hjI:(j:Int)<(C.ws.length:Int):=by omega
   by_cases hqi:(qi:Int)=i
   ·have HQ2:Hid (((qi:Int)==i)=true):=by show ((qi:Int)==i)=true;simp [hqi]
    have HQ:Hid ((qi:Int)=i):=hqi
    clear hqi
    go_wp2_with (first
     |(show wpList _ _ _ ({dst:=some 25,op:=.load _ _,type:=_,pos:=_,after:=_,guard:=_}::_) _ _;refine wpList_load_mid rfl 160 (.tmp 24) rfl _ _ rfl (.int .i64 (qi:Int)::qb) _ HP.out Tryz.underlying160 rfl (by rw [List.length_cons,HPO.out.1];exact HIw.out) ?_)
     |(show wpList _ _ _ ({dst:=none,op:=.store _ (.tmp 7) (.tmp 25),type:=_,pos:=_,after:=_,guard:=_}::_) _ _;refine zg rfl 160 (.tmp 7) (.tmp 25) rfl _ _ (.int .i64 (qi:Int)::qb) rfl rfl rfl (by rw [List.length_cons,HPO.out.1];exact HIw.out) (by rw [List.length_cons,HPO.out.1];simpa using HZw.out) (List.forall_mem_cons.2 ⟨rfl,HPO.out.2⟩) ?_)
     |(show wpList _ _ _ ({dst:=some 27,op:=.load _ _,type:=_,pos:=_,after:=_,guard:=_}::_) _ _;refine wpList_load_mid rfl 160 (.tmp 7) rfl _ _ rfl (.int .i64 (qi:Int)::qb) _ HRA.out Tryz.underlying160 rfl (by rw [List.length_cons,HPO.out.1];exact HIw.out) ?_)
     |(go_at_call 184;refine(kq _ b i HBA.out qi qb HPO.out).mono ?_;rintro e w2 ⟨rfl,hk2⟩;rw [HQ2.out];have HK2:Hid _:=hk2;clear hk2))
    go_roundw
    case rel=>exact⟨p,j+1,V,rfl,by go_num,HSK.out _ HQ.out (HKA.out.trans HK2.out iL)⟩
    case measure=>simp [intOf];omega
   ·have HQ2:Hid (((qi:Int)==i)=false):=by show ((qi:Int)==i)=false;simpa using hqi
    have HQ:Hid (¬(qi:Int)=i):=hqi
    clear hqi
    have hpI:(p:Int)<(C.ws.length:Int):=by omega
    go_wp2_with (first
     |(show wpList _ _ _ ({dst:=some 25,op:=.load _ _,type:=_,pos:=_,after:=_,guard:=_}::_) _ _;refine wpList_load_mid rfl 160 (.tmp 24) rfl _ _ rfl (.int .i64 (qi:Int)::qb) _ HP.out Tryz.underlying160 rfl (by rw [List.length_cons,HPO.out.1];exact HIw.out) ?_)
     |(show wpList _ _ _ ({dst:=none,op:=.store _ (.tmp 7) (.tmp 25),type:=_,pos:=_,after:=_,guard:=_}::_) _ _;refine zg rfl 160 (.tmp 7) (.tmp 25) rfl _ _ (.int .i64 (qi:Int)::qb) rfl rfl rfl (by rw [List.length_cons,HPO.out.1];exact HIw.out) (by rw [List.length_cons,HPO.out.1];simpa using HZw.out) (List.forall_mem_cons.2 ⟨rfl,HPO.out.2⟩) ?_)
     |(show wpList _ _ _ ({dst:=some 27,op:=.load _ _,type:=_,pos:=_,after:=_,guard:=_}::_) _ _;refine wpList_load_mid rfl 160 (.tmp 7) rfl _ _ rfl (.int .i64 (qi:Int)::qb) _ HRA.out Tryz.underlying160 rfl (by rw [List.length_cons,HPO.out.1];exact HIw.out) ?_)
     |(go_at_call 184;refine(kq _ b i HBA.out qi qb HPO.out).mono ?_;rintro e w2 ⟨rfl,hk2⟩;rw [HQ2.out];have HK2:Hid (Kept (fun _=>False) (wr.alloc (.cells (.int .i64 (qi:Int)::qb).toArray 160)) w2):=hk2;have HR2:Hid (w2.rangeAt wr.heap.size 0 (.int .i64 (qi:Int)::qb)):=zQ ((hk2.block wr.heap.size (by simp) id).trans (heap_alloc_new wr _));clear hk2)
     |(show wpList _ _ _ ({dst:=some 32,op:=.load _ _,type:=_,pos:=_,after:=_,guard:=_}::_) _ _;refine wpList_load_mid rfl 160 (.tmp 7) rfl _ _ rfl (.int .i64 (qi:Int)::qb) _ HR2.out Tryz.underlying160 rfl (by rw [List.length_cons,HPO.out.1];exact HIw.out) ?_)
     |(show wpList _ _ _ ({dst:=none,op:=.store _ (.tmp 33) (.tmp 32),type:=_,pos:=_,after:=_,guard:=_}::_) _ _;refine wpList_store_mid rfl 160 (.tmp 33) (.tmp 32) rfl g (p*129) _ rfl rfl (by rw [List.size_toArray,List.length_cons,HPO.out.1];exact HTH.out w2 (HKA.out.trans HK2.out iL)) (by rw [List.size_toArray,List.length_cons,HPO.out.1];exact HIw.out) (all_oneCell_toArray (List.forall_mem_cons.2 ⟨rfl,HPO.out.2⟩)) ?_))
    go_roundw
    case rel=>exact⟨p+1,j+1,_,by go_num,by go_num,HMV.out _ HQ.out (HKA.out.trans HK2.out iL)⟩
    case measure=>simp [intOf];omega
  ·obtain rfl:j=C.ws.length:=by omega
   have hpl:(vg C.ws i).length=p:=by
    have h1:=congrArg List.length HI.out.front
    rw [List.take_length,List.length_take,HI.out.len,Nat.min_eq_left (by omega)] at h1
    exact h1.symm
   have HFD:Hid (V.take p=vg C.ws i):=by have h1:=HI.out.front;rw [List.take_length] at h1;exact h1
   have hcap:C.ws.length≤cap:=by
    rcases HI.out.row.2 with⟨h0,_⟩|⟨g',cap',cur,hv',_,hg,h1,h2,h3,h4⟩
    ·cases h0
    ·cases hv';exact h1
   have HTH:Hid (wr.there g (p*129) ((C.ws.length-p)*129)):=by
    show wr.there g (p*129) ((C.ws.length-p)*129)
    rcases HI.out.row.2 with⟨h0,_⟩|⟨g',cap',cur,hv',_,hg,h1,h2,h3,h4⟩
    ·cases h0
    ·cases hv'
     intro m hm
     have hpc:p*129+m<cur.size:=by
      rw [h3]
      have:C.ws.length*129≤cap*129:=Nat.mul_le_mul_right _ h1
      rw [Nat.sub_mul] at hm
      have:p*129≤C.ws.length*129:=Nat.mul_le_mul_right _ (by omega)
      omega
     refine⟨?_,frozen_of_row wr g _ _ _ hg⟩
     rw [cell_of_row wr g _ _ _ _ hg,Array.getElem?_eq_getElem hpc]
     rfl
   obtain⟨L,hL,hcl⟩:=bU wr g (p*129) (C.ws.length-p) (cap-p) (by omega) HTH.out
   have HOF:=Ya HI.out.row HI.out.ok HI.out.len p (by omega) L (by rw [hL,Nat.sub_mul];have:p*129≤C.ws.length*129:=Nat.mul_le_mul_right _ (by omega);omega)
   have HOW:Hid ((wr.setCells g (p*129) L).ownsRow 0 160 129 (.slice (some ⟨g,0,none⟩) p cap) p ((vg C.ws i).map zM).flatten):=by rw [←HFD.out];exact HOF
   have HPL:Hid ((vg C.ws i).length=p):=hpl
   have hne:¬cap=p:=by omega
   have hneI:¬(cap:Int)=(p:Int):=by omega
   have hpI:(p:Int)≤(C.ws.length:Int):=by omega
   have hpI2:(p:Int)≤(cap:Int):=by omega
   have hnI:(C.ws.length:Int)≤(cap:Int):=by omega
   clear HOF hpl
   go_wp2
   go_ret
   refine⟨by rw [HPL.out];rfl,by rw [HPL.out];exact HOW.out,HI.out.kept.trans (Kept.setCells (S:=fun k=>k=g) g rfl _ _ _) iL⟩
theorem Yb:∀(r:Fin 8) (x:Fin 256),bits BinOp.andNot IntKind.u8 (x.val:Int) (uf r.val)=((x.val&&&(255^^^2^r.val):Nat):Int):=by decide+kernel
theorem Yc(x r:Nat)(hx:x<256)(hr:r<8):bits BinOp.andNot IntKind.u8 (x:Int) (uf r)=((x&&&(255^^^2^r):Nat):Int):=Yb ⟨r,hr⟩ ⟨x,hx⟩
def Ck.free(C:Ck)(m:List UInt8)(i:Nat):Ck:={C.put 2 (zl (zL (xH m i))) with ws:=vg (C.put 2 (zl (zL (xH m i)))).ws ((i:Int)+21)}
theorem qm.shorter{w w':World}{bc bd:Nat}{T:Nat→Prop}{C:Ck}{g cap:Nat}(h:qm w bc bd T C (some ⟨g,0,none⟩) cap)(ws:List (Nat×List Value))(hok:∀p∈ws,zy p.2)(hl:ws.length≤C.ws.length)
 (hrow:w'.ownsRow 0 160 129 (.slice (some ⟨g,0,none⟩) ws.length cap) ws.length (ws.map zM).flatten) (hk:Kept (fun j=>j=g) w w'):
 qm (w'.setCell ⟨bc,1,none⟩ (.slice (some ⟨g,0,none⟩) ws.length cap)) bc bd T {C with ws:=ws} (some ⟨g,0,none⟩) cap:=by
 have hgb:bc≠g:=fun e=>h.ap (by rw [←e];rfl)
 have hhead:w'.heap[bc]? =_:=(hk.block bc (h.lt bc h.bcT) hgb).trans h.head
 refine⟨hok,?_,?_,h.own,h.ap,by show ws.length≤1000;have:=h.few;omega⟩
 ·rw [heap_setCell_same w' bc 1 _ _ _ hhead];rfl
 ·exact(Kept.setCell (S:=fun k=>k=bc) w' ⟨bc,1,none⟩ _ rfl).owns hrow (fun k hk' e=>h.ap (by
   have e1:(Value.slice (some ⟨g,0,none⟩) C.ws.length cap).ownBlock=(Value.slice (some ⟨g,0,none⟩) ws.length cap).ownBlock:=rfl
   rw [e1,hk',show k=bc from e]))
section
attribute [local go_sem ↓] xD
theorem vR(w:World)(bc bd:Nat)(S T:Nat→Prop)(D:Dk)(C:Ck)(h:Cw w bc bd S T D C)(m:List UInt8)(hm:qn (C.look D 2) m)(hr0:0≤D.reads)(hr1:D.reads≤4611686018427387904)(hfew:C.ws.length<1000)(i:Nat)(hi:i<979):
 Calls Tryz.prog 143 #[.pointer (some ⟨bc,0,none⟩),.int .i64 ((i:Int)+21)] w fun e w'=>e=.returned (.tuple #[])∧(∃(n:Int) (T':Nat→Prop),0≤n∧n≤1∧Cw w' bc bd S T' {D with reads:=D.reads+n} (C.free m i)∧∀k,T' k→T k∨w.heap.size≤k)∧Kept (fun k=>k=bd∨T k) w w':=by
 obtain⟨Zb,hZb,hz⟩:∃Zb:List Value,Zb=zT∧∀w,(zeroValue 154).run Tryz.prog w=.ok (.agg Zb.toArray) w:=⟨zT,rfl,zV Tryz.infoPage⟩
 have HZb:Hid (zy Zb):=by rw [hZb];exact zF
 clear hZb
 have HI:Hid ((Tryz.prog.info? 154).map (·.size)=some 128):=zS Tryz.infoPage
 have HW:Hid (Cw w bc bd S T D C):=h
 have HM:Hid (qn (C.look D 2) m):=hm
 have hml:=hm.len
 have HOK:Hid (zy (zl (zL m))):=qP (xi hm.len)
 have HSL:Hid (∀k,S k→k<w.heap.size):=h.disk.lt
 have HTL:Hid (∀k,T k→k<w.heap.size):=h.chg.lt
 have hbd:bd<w.heap.size:=h.disk.lt bd h.disk.bdS
 clear h hm
 go_enter Tryz.func143,Tryz.ntmps143
 have HK0:Hid (Kept (fun _=>False) w (w.alloc (.cells #[.int .i64 ((i:Int)+21)] 3))):=Kept.alloc _ _ _
 have HB0:Hid ((w.alloc (.cells #[.int .i64 ((i:Int)+21)] 3)).heap[w.heap.size]? =some (.cells #[.int .i64 ((i:Int)+21)] 3 (0,0))):=heap_alloc_new w _
 have hs0:(w.alloc (.cells #[.int .i64 ((i:Int)+21)] 3)).heap.size=w.heap.size+1:=by simp
 go_wp2_with fail
 generalize (w.alloc (.cells #[.int .i64 ((i:Int)+21)] 3))=W0 at*
 refine(vA W0 bc bd S T D C (HW.out.kept0 HK0.out) m HM.out hr0 hr1).mono ?_
 rintro e w1 ⟨rfl,⟨nr,hn0,hn1,hcw⟩,hk1⟩
 have HCW:Hid (Cw w1 bc bd S T {D with reads:=D.reads+nr} C):=hcw
 have HK1:Hid (Kept (fun k=>k=bd) W0 w1):=hk1
 have hz1:=hk1.size
 have HB1:Hid (w1.heap[w.heap.size]? =some (.cells #[.int .i64 ((i:Int)+21)] 3 (0,0))):=(hk1.block _ (by omega) (by omega)).trans HB0.out
 have c1:w1.cell? ⟨w.heap.size,0,none⟩=some (.int .i64 ((i:Int)+21)):=cR HB1.out rfl
 have l1:w.heap.size<w1.heap.size:=by omega
 clear hcw hk1
 go_wp2_with (first
  |(show wpList _ _ _ ({dst:=none,op:=.store _ (.tmp 4) (.tmp 8),type:=_,pos:=_,after:=_,guard:=_}::_) _ _;refine zg rfl 154 (.tmp 4) (.tmp 8) rfl _ _ (zl (zL m)) (by simp) rfl rfl (by rw [HOK.out.1];exact HI.out) (by rw [List.size_toArray,HZb.out.1,HOK.out.1]) HOK.out.2 ?_)
  |(go_at_call 171;refine(ug _ i (by omega)).mono ?_;rintro e w3 ⟨rfl,n3,rfl⟩))
 have HP:Hid (qu ((w1.alloc (.cells (zl (zL m)).toArray 154)).drewN n3) w1.heap.size (zL m)):=(show qu (w1.alloc (.cells (zl (zL m)).toArray 154)) w1.heap.size (zL m) from⟨⟨heap_alloc_new w1 _⟩,xi HM.out.len⟩).kept (T:=fun _=>False) kD (fun hf=>hf)
 have HKW:Hid (Kept (fun _=>False) w1 ((w1.alloc (.cells (zl (zL m)).toArray 154)).drewN n3)):=(Kept.alloc _ _ _).trans (S':=fun _=>False) kD iL
 have hsW:((w1.alloc (.cells (zl (zL m)).toArray 154)).drewN n3).heap.size=w1.heap.size+1:=by show (w1.alloc _).heap.size=_;simp
 generalize (w1.alloc (.cells (zl (zL m)).toArray 154)).drewN n3=W at*
 refine(xu W _ _ HP.out).mono ?_
 rintro e w4 ⟨rfl,n4,rfl⟩
 have hitv:xj w1.heap.size (zL m).kind (zL m).items.length=.slice (some ⟨w1.heap.size,4,none⟩) 124 124:=by simp [xj,zL,zk,hml]
 rw [hitv]
 clear hitv
 have HP4:Hid (qu (W.drewN n4) w1.heap.size (zL m)):=HP.out.kept (T:=fun _=>False) kD (fun hf=>hf)
 have HKW4:Hid (Kept (fun _=>False) w1 (W.drewN n4)):=HKW.out.trans (S':=fun _=>False) kD iL
 have hs4:(W.drewN n4).heap.size=w1.heap.size+1:=hsW
 generalize W.drewN n4=W4 at*
 have hcell:=Zd HM.out.len HP4.out (i/8) (by omega)
 have hfz:=HP4.out.bs.fz (4+i/8)
 have hx:=(m.getD (i/8) 0).toNat_lt
 have HCLR:Hid (xH m i=m.set (i/8) (UInt8.ofNat ((m.getD (i/8) 0).toNat&&&(255^^^2^(i%8))))):=rfl
 have hand:=Yc (m.getD (i/8) 0).toNat (i%8) (m.getD (i/8) 0).toNat_lt (by omega)
 have HV:Hid ((m.getD (i/8) 0).toNat&&&(255^^^2^(i%8))<256):=Nat.lt_of_le_of_lt Nat.and_le_left hx
 generalize (m.getD (i/8) 0).toNat=x at*
 generalize hy:x&&&(255^^^2^(i%8))=y at*
 have HP5:Hid (qu (W4.setCell ⟨w1.heap.size,4+i/8,none⟩ (.int .u8 (y:Int))) w1.heap.size (zL (xH m i))):=by rw [HCLR.out];exact map_set HM.out.len HP4.out i (by omega) y HV.out
 have HK5:Hid (Kept (fun k=>k=w1.heap.size) W4 (W4.setCell ⟨w1.heap.size,4+i/8,none⟩ (.int .u8 (y:Int)))):=Kept.setCell (S:=fun k=>k=w1.heap.size) W4 ⟨w1.heap.size,4+i/8,none⟩ (.int .u8 (y:Int)) rfl
 have HOV:Hid (zy (zl (zL (xH m i)))):=qP HP5.out.ok
 have hrP:(vy (.pointer (some ⟨w1.heap.size,0,none⟩))).run Tryz.prog (W4.setCell ⟨w1.heap.size,4+i/8,none⟩ (.int .u8 (y:Int)))=.ok (.agg (zl (zL (xH m i))).toArray) (W4.setCell ⟨w1.heap.size,4+i/8,none⟩ (.int .u8 (y:Int))):=yV _ _ _ _ (zQ HP5.out.bs.at_) HOV.out.1
 clear hy
 have hi8:(i:Int)/8<124:=by omega
 have hi80:0≤(i:Int)/8:=by omega
 go_wp2_with fail
 have HC5:Hid (Cw (W4.setCell ⟨w1.heap.size,4+i/8,none⟩ (.int .u8 (y:Int))) bc bd S T {D with reads:=D.reads+nr} C):=(HCW.out.kept0 HKW4.out).kept HK5.out (fun j hj e0=>by have h1:=HSL.out j hj;have h2:j=w1.heap.size:=e0;omega) (fun j hj e0=>by have h1:=HTL.out j hj;have h2:j=w1.heap.size:=e0;omega)
 have HB5:Hid ((W4.setCell ⟨w1.heap.size,4+i/8,none⟩ (.int .u8 (y:Int))).heap[w.heap.size]? =some (.cells #[.int .i64 ((i:Int)+21)] 3 (0,0))):=(HK5.out.block _ (by omega) (by omega)).trans ((HKW4.out.block _ (by omega) id).trans HB1.out)
 have hs5:(W4.setCell ⟨w1.heap.size,4+i/8,none⟩ (.int .u8 (y:Int))).heap.size=w1.heap.size+1:=by rw [←hs4];simp
 have HKw5:Hid (Kept (fun k=>k=bd) w (W4.setCell ⟨w1.heap.size,4+i/8,none⟩ (.int .u8 (y:Int)))):=(((HK0.out.mono fE).trans HK1.out iL).trans HKW4.out fE).trans HK5.out (fun j hj=>.inr (by omega))
 generalize (W4.setCell ⟨w1.heap.size,4+i/8,none⟩ (.int .u8 (y:Int)))=W5 at*
 refine(xF W5 bc bd S T _ C HC5.out 2 _ HOV.out hfew).mono ?_
 rintro e w6 ⟨rfl,⟨T6,hc6,hT6⟩,hk6⟩
 have HC6:Hid (Cw w6 bc bd S T6 {D with reads:=D.reads+nr} (C.put 2 (zl (zL (xH m i))))):=hc6
 have HT6:Hid (∀k,T6 k→T k∨W5.heap.size≤k):=hT6
 have HK6:Hid (Kept T W5 w6):=hk6
 have hz6:=hk6.size
 have HB6:Hid (w6.heap[w.heap.size]? =some (.cells #[.int .i64 ((i:Int)+21)] 3 (0,0))):=(hk6.block _ (by omega) (fun hc=>by have:=HTL.out _ hc;omega)).trans HB5.out
 clear hc6 hT6 hk6 hrP
 generalize hC2:C.put 2 (zl (zL (xH m i)))=C2 at*
 have HC2:Hid (C.put 2 (zl (zL (xH m i)))=C2):=hC2
 clear hC2
 obtain⟨a,cap,hca⟩:=HC6.out.chg
 have HCA:Hid (qm w6 bc bd T6 C2 a cap):=hca
 have d1:=hca.c1
 have d1f:=hca.fz 1
 clear hca
 have HF:Hid (C.free m i={C2 with ws:=vg C2.ws ((i:Int)+21) }):=by show C.free m i=_;unfold Ck.free;rw [HC2.out]
 have HKT:Hid (∀k,T6 k→T k∨w.heap.size≤k):=fun k hk=>(HT6.out k hk).imp id (fun h=>by omega)
 have HKw6:Hid (Kept (fun k=>k=bd∨T k) w w6):=(HKw5.out.mono iL).trans HK6.out (fun _ h=>.inl (.inr h))
 have hbc6:T6 bc:=HCA.out.bcT
 have HBC:Hid (T6 bc):=hbc6
 have HAP:Hid (∀k,S k→¬T6 k):=HC6.out.apart
 have HDI:Hid (zh w6 bd S {D with reads:=D.reads+nr }):=HC6.out.disk
 have hbcb:¬bc=w.heap.size:=fun e=>by
  rcases HKT.out bc hbc6 with h|h
  ·have:=HTL.out bc h;omega
  ·rcases HT6.out bc hbc6 with h2|h2
   ·have:=HTL.out bc h2;omega
   ·omega
 clear hbc6
 cases hx:qH C2.ws ((i:Int)+21) with
 |none=>
  have HX:Hid (qH C2.ws ((i:Int)+21)=none):=hx
  have HD:Hid (vg C2.ws ((i:Int)+21)=C2.ws):=by
   show vg C2.ws ((i:Int)+21)=C2.ws
   unfold vg
   rw [List.filter_eq_self]
   intro p hp
   unfold qH at hx
   rw [List.findIdx?_eq_none_iff] at hx
   simpa using hx p hp
  clear hx
  go_wp2_with (go_at_call 183;refine(bW w6 bc bd T6 C2 a cap HCA.out w.heap.size _ HB6.out HX.out).mono ?_;rintro e w7 ⟨rfl,hk7⟩;have HK7:Hid (Kept (fun _=>False) w6 w7):=hk7;have HC7:Hid (qm w7 bc bd T6 C2 a cap):=HCA.out.kept hk7 nF;have g1:=HC7.out.c1;have g1f:=HC7.out.fz 1;clear hk7)
  go_end0
  have VS:w7.setCell ⟨bc,1,none⟩ (.slice a C2.ws.length cap)=w7:=g8 HC7.out.head rfl
  rw [VS]
  refine⟨rfl,⟨nr,T6,hn0,hn1,⟨HDI.out.kept HK7.out nF,?_,HAP.out⟩,HKT.out⟩,HKw6.out.trans HK7.out fE⟩
  rw [HF.out,HD.out]
  exact⟨a,cap,HC7.out⟩
 |some k=>
  have HX:Hid (qH C2.ws ((i:Int)+21)=some k):=hx
  obtain⟨g,rfl⟩:=HCA.out.rowAt (by have:=(dN hx).1;omega)
  clear hx
  have hTg:T6 g:=(HCA.out.own g).2 (.inr rfl)
  have HTG:Hid (T6 g):=hTg
  have hbg:w.heap.size≠g:=fun e=>by
   rcases HT6.out g hTg with h2|h2
   ·have:=HTL.out g h2;omega
   ·omega
  have hgbc:¬bc=g:=fun e=>HCA.out.ap (by rw [←e];rfl)
  clear hTg
  go_wp2_with (go_at_call 183;refine(bY w6 bc bd T6 C2 g cap HCA.out w.heap.size _ HB6.out hbg k HX.out).mono ?_;rintro e w7 ⟨rfl,ho7,hk7⟩;have HK7:Hid (Kept (fun j=>j=g) w6 w7):=hk7;have HO7:Hid (w7.ownsRow 0 160 129 (.slice (some ⟨g,0,none⟩) (vg C2.ws ((i:Int)+21)).length cap) (vg C2.ws ((i:Int)+21)).length ((vg C2.ws ((i:Int)+21)).map zM).flatten):=ho7;have HH7:Hid (w7.heap[bc]? =_):=(hk7.block bc (HCA.out.lt bc HCA.out.bcT) hgbc).trans HCA.out.head;have g1:w7.cell? ⟨bc,1,none⟩=some (.slice (some ⟨g,0,none⟩) C2.ws.length cap):=(cR HH7.out rfl);have g1f:w7.frozen? ⟨bc,1,none⟩=false:=frozen_of_row w7 bc 1 _ _ HH7.out;clear ho7 hk7)
  go_end0
  have hCh:=HCA.out.shorter (vg C2.ws ((i:Int)+21)) (fun p hp=>HCA.out.ok p (List.mem_filter.1 hp).1) (List.length_filter_le _ _) HO7.out HK7.out
  have kS:Kept (fun k=>k=bc) w7 (w7.setCell ⟨bc,1,none⟩ (.slice (some ⟨g,0,none⟩) (vg C2.ws ((i:Int)+21)).length cap)):=Kept.setCell (S:=fun k=>k=bc) w7 ⟨bc,1,none⟩ _ rfl
  refine⟨rfl,⟨nr,T6,hn0,hn1,⟨(HDI.out.kept HK7.out (fun j hj e0=>HAP.out j hj (by rw [show j=g from e0];exact HTG.out))).kept kS (fun j hj e0=>HAP.out j hj (by rw [show j=bc from e0];exact HBC.out)),?_,HAP.out⟩,HKT.out⟩,(HKw6.out.trans HK7.out (fun j hj=>?_)).trans kS (fun j hj=>?_)⟩
  ·rw [HF.out]
   exact⟨_,cap,hCh⟩
  ·rcases HKT.out g HTG.out with h|h
   ·exact .inl (.inr (by rw [show j=g from hj];exact h))
   ·exact .inr (by rw [show j=g from hj];exact h)
  ·rcases HKT.out bc HBC.out with h|h
   ·exact .inl (.inr (by rw [show j=bc from hj];exact h))
   ·exact .inr (by rw [show j=bc from hj];exact h)
end
theorem Yd(w:World)(bc bd:Nat)(S T:Nat→Prop)(D:Dk)(C:Ck)(h:Cw w bc bd S T D C)(m:List UInt8)(hm:qn (C.look D 2) m)(hr0:0≤D.reads)(hr1:D.reads≤4611686018427380000)(hfew:C.ws.length<1000)(i:Nat)(hi:i<979)(k:Nat)(hk:k=4∨k=5)(hl:C.look D ((i+21:Nat):Int)=zl (za k [])):
 Calls Tryz.prog 142 #[.pointer (some ⟨bc,0,none⟩),.int .i64 ((i:Int)+21)] w fun e w'=>e=.returned (.int .i64 0)∧(∃(n:Int) (T':Nat→Prop),0≤n∧n≤2∧Cw w' bc bd S T' {D with reads:=D.reads+n} (C.free m i)∧∀k,T' k→T k∨w.heap.size≤k)∧Kept (fun k=>k=bd∨T k) w w':=by
 have HW:Hid (Cw w bc bd S T D C):=h
 have HM:Hid (qn (C.look D 2) m):=hm
 have hcast:((i+21:Nat):Int)=(i:Int)+21:=by omega
 have HLD:Hid (Calls Tryz.prog 174 #[.iface 142 (.pointer (some ⟨bc,0,none⟩)),.int .i64 ((i:Int)+21)] w fun e w'=>∃a' cap',e=.returned (.agg #[.int .u8 (k:Int),.slice a' 0 cap'])∧(∃n:Int,0≤n∧n≤1∧Cw w' bc bd S T {D with reads:=D.reads+n} C)∧Kept (fun i=>i=bd) w w'):=by
  have:=yf w bc bd S T D C h hr0 (by omega) (i+21) (by omega) k [] hk (by simp) (by simp) (by simp) hl
  rw [hcast] at this
  exact this.mono (fun e w' ⟨a',cap',h1,h2,h3,_⟩=>⟨a',cap',h1,h2,h3⟩)
 have HTL:Hid (∀k,T k→k<w.heap.size):=h.chg.lt
 clear h hm hl hcast
 go_enter Tryz.func142,Tryz.ntmps142
 go_wp2_with fail
 refine HLD.out.mono ?_
 rintro e w1 ⟨a',cap',rfl,⟨n1,hn10,hn11,hc1⟩,hk1⟩
 have HC1:Hid (Cw w1 bc bd S T {D with reads:=D.reads+n1} C):=hc1
 have HK1:Hid (Kept (fun i=>i=bd) w w1):=hk1
 have hz1:=hk1.size
 clear hc1 hk1
 have HKA:Hid (Kept (fun _=>False) w1 (w1.alloc (.cells #[.int .u8 (k:Int),.slice a' 0 cap'] 209))):=Kept.alloc _ _ _
 go_wp2_with (go_at_call 143;refine(vR _ bc bd S T {D with reads:=D.reads+n1} C (HC1.out.kept0 HKA.out) m HM.out (by show 0≤D.reads+n1;omega) (by show D.reads+n1≤_;omega) hfew i hi).mono ?_;rintro e w2 ⟨rfl,⟨n2,T2,hn20,hn21,hc2,hT2⟩,hk2⟩;have HC2:Hid (Cw w2 bc bd S T2 {D with reads:=D.reads+n1+n2} (C.free m i)):=hc2;have HT2:Hid (∀j,T2 j→T j∨(w1.alloc (.cells #[.int .u8 (k:Int),.slice a' 0 cap'] 209)).heap.size≤j):=hT2;have HK2:Hid _:=hk2;clear hc2 hT2 hk2)
 go_ret
 refine⟨rfl,⟨n1+n2,T2,by omega,by omega,?_,fun j hj=>?_⟩,?_⟩
 ·have:=HC2.out;rw [Int.add_assoc] at this;exact this
 ·rcases HT2.out j hj with h1|h1
  ·exact .inl h1
  ·exact .inr (by have:=HKA.out.size;omega)
 ·exact(((HK1.out.mono (S':=fun k=>k=bd∨T k) iL).trans HKA.out fE).trans HK2.out iL)
theorem XD(w:World)(bc bd:Nat)(S T:Nat→Prop)(D:Dk)(C:Ck)(h:Cw w bc bd S T D C)(m:List UInt8)(hm:qn (C.look D 2) m)(hr0:0≤D.reads)(hr1:D.reads≤4611686018427380000)(hfew:C.ws.length<1000)(i:Nat)(hi:i<979)(x:En)(hx:x.Ok)(hx2:x.mark=false∧x.size=0)(hl:C.look D ((i+21:Nat):Int)=zl (za 4 [x])):
 Calls Tryz.prog 142 #[.pointer (some ⟨bc,0,none⟩),.int .i64 ((i:Int)+21)] w fun e w'=>e=.returned (.int .i64 (x.at_:Int))∧(∃(n:Int) (T':Nat→Prop),0≤n∧n≤2∧Cw w' bc bd S T' {D with reads:=D.reads+n} (C.free m i)∧∀k,T' k→T k∨w.heap.size≤k)∧Kept (fun k=>k=bd∨T k) w w':=by
 have HW:Hid (Cw w bc bd S T D C):=h
 have HM:Hid (qn (C.look D 2) m):=hm
 have hcast:((i+21:Nat):Int)=(i:Int)+21:=by omega
 have HLD:Hid (Calls Tryz.prog 174 #[.iface 142 (.pointer (some ⟨bc,0,none⟩)),.int .i64 ((i:Int)+21)] w fun e w'=>∃g cap',e=.returned (.agg #[.int .u8 4,.slice (some ⟨g,0,none⟩) 1 cap'])∧(∃n:Int,0≤n∧n≤1∧Cw w' bc bd S T {D with reads:=D.reads+n} C)∧Kept (fun i=>i=bd) w w'∧w.heap.size≤g∧g<w'.heap.size∧w'.cell? ⟨g,4,none⟩=some (.int .i64 (x.at_:Int))):=by
  have:=yf w bc bd S T D C h hr0 (by omega) (i+21) (by omega) 4 [x] (.inl rfl) (by simpa using hx) (fun _=>by simpa using hx2) (by simp) hl
  rw [hcast] at this
  refine this.mono ?_
  rintro e w' ⟨a',cap',h1,h2,h3,h4,h5,h6⟩
  rcases h5.2 with⟨_,h0⟩|⟨g,cap2,cur,hv,_,hg,_⟩
  ·simp at h0
  ·simp only [List.length_singleton,Value.slice.injEq] at hv
   obtain⟨rfl,_,rfl⟩:=hv
   have hc:=h5.cells (g:=g) rfl 4 (.int .i64 (x.at_:Int)) (by simp [qp])
   rw [Addr.add_mid] at hc
   exact⟨g,cap',h1,h2,h3,h6 g rfl,(lT hg),hc⟩
 have HTL:Hid (∀k,T k→k<w.heap.size):=h.chg.lt
 have hbd:bd<w.heap.size:=h.disk.lt bd h.disk.bdS
 clear h hm hl hcast
 go_enter Tryz.func142,Tryz.ntmps142
 go_wp2_with fail
 refine HLD.out.mono ?_
 rintro e w1 ⟨g,cap',rfl,⟨n1,hn10,hn11,hc1⟩,hk1,hg1,hg2,hcx⟩
 have HC1:Hid (Cw w1 bc bd S T {D with reads:=D.reads+n1} C):=hc1
 have HK1:Hid (Kept (fun i=>i=bd) w w1):=hk1
 have hz1:=hk1.size
 clear hc1 hk1
 have HKA:Hid (Kept (fun _=>False) w1 (w1.alloc (.cells #[.int .u8 4,.slice (some ⟨g,0,none⟩) 1 cap'] 209))):=Kept.alloc _ _ _
 have HBA:Hid ((w1.alloc (.cells #[.int .u8 4,.slice (some ⟨g,0,none⟩) 1 cap'] 209)).heap[w1.heap.size]? =some (.cells #[.int .u8 4,.slice (some ⟨g,0,none⟩) 1 cap'] 209 (0,0))):=heap_alloc_new w1 _
 have HNT:Hid (∀j,w.heap.size≤j→¬(j=bd∨T j)):=fun j hj hc=>by
  rcases hc with h|h
  ·omega
  ·have:=HTL.out j h;omega
 have HCX:Hid (w1.cell? ⟨g,4,none⟩=some (.int .i64 (x.at_:Int))):=hcx
 clear hcx
 go_wp2_with (go_at_call 143;refine(vR _ bc bd S T {D with reads:=D.reads+n1} C (HC1.out.kept0 HKA.out) m HM.out (by show 0≤D.reads+n1;omega) (by show D.reads+n1≤_;omega) hfew i hi).mono ?_;rintro e w2 ⟨rfl,⟨n2,T2,hn20,hn21,hc2,hT2⟩,hk2⟩;have HC2:Hid (Cw w2 bc bd S T2 {D with reads:=D.reads+n1+n2} (C.free m i)):=hc2;have HT2:Hid (∀j,T2 j→T j∨(w1.alloc (.cells #[.int .u8 4,.slice (some ⟨g,0,none⟩) 1 cap'] 209)).heap.size≤j):=hT2;have HK2:Hid (Kept (fun k=>k=bd∨T k) (w1.alloc (.cells #[.int .u8 4,.slice (some ⟨g,0,none⟩) 1 cap'] 209)) w2):=hk2;have HB2:Hid (w2.heap[w1.heap.size]? =some (.cells #[.int .u8 4,.slice (some ⟨g,0,none⟩) 1 cap'] 209 (0,0))):=(hk2.block _ (by simp) (HNT.out _ hz1)).trans HBA.out;have d1:w2.cell? ⟨w1.heap.size,1,none⟩=some (.slice (some ⟨g,0,none⟩) 1 cap'):=(cR HB2.out rfl);have d2:w2.cell? ⟨g,4,none⟩=some (.int .i64 (x.at_:Int)):=(hk2.cell (a:=⟨g,4,none⟩) (Nat.lt_of_lt_of_le hg2 HKA.out.size) (HNT.out g hg1)).trans ((HKA.out.cell (a:=⟨g,4,none⟩) hg2 id).trans HCX.out);clear hc2 hT2 hk2)
 go_ret
 refine⟨rfl,⟨n1+n2,T2,by omega,by omega,?_,fun j hj=>?_⟩,?_⟩
 ·have:=HC2.out;rw [Int.add_assoc] at this;exact this
 ·rcases HT2.out j hj with h1|h1
  ·exact .inl h1
  ·exact .inr (by have:=HKA.out.size;omega)
 ·exact(((HK1.out.mono (S':=fun k=>k=bd∨T k) iL).trans HKA.out fE).trans HK2.out iL)
theorem Ye(w:World)(bc bd:Nat)(S T:Nat→Prop)(D:Dk)(C:Ck)(h:Cw w bc bd S T D C)(hr0:0≤D.reads)(hr1:D.reads≤4611686018427380000)(at_:Nat)(hat:at_<65536)(k:Nat)(hk:k=4∨k=5)(es:List En)(hes:∀e∈es,e.Ok)(h4:k=4→∀e∈es,e.mark=false∧e.size=0)(hlen:es.length≤6)(h1:1≤es.length)(h2:k=4→2≤es.length)(hl:C.look D (at_:Nat)=zl (za k es)):
 Calls Tryz.prog 142 #[.pointer (some ⟨bc,0,none⟩),.int .i64 (at_:Int)] w fun e w'=>e=.returned (.int .i64 (at_:Int))∧(∃n:Int,0≤n∧n≤1∧Cw w' bc bd S T {D with reads:=D.reads+n} C)∧Kept (fun k=>k=bd) w w':=by
 have HLD:Hid (Calls Tryz.prog 174 #[.iface 142 (.pointer (some ⟨bc,0,none⟩)),.int .i64 (at_:Int)] w fun e w'=>∃a' cap',e=.returned (.agg #[.int .u8 (k:Int),.slice a' es.length cap'])∧(∃n:Int,0≤n∧n≤1∧Cw w' bc bd S T {D with reads:=D.reads+n} C)∧Kept (fun i=>i=bd) w w'):=
  (yf w bc bd S T D C h hr0 (by omega) at_ hat k es hk hes h4 hlen hl).mono (fun e w' ⟨a',cap',h1,h2,h3,_⟩=>⟨a',cap',h1,h2,h3⟩)
 have hb0:((es.length:Int)==0)=false:=by simpa using (by omega:¬es.length=0)
 have HK4:Hid ((k=4∧((es.length:Int)==1)=false)∨k=5):=by
  rcases hk with h|h
  ·exact .inl ⟨h,by have:=h2 h;simpa using (by omega:¬(es.length:Int)=1)⟩
  ·exact .inr h
 clear h hes h4 hlen h1 h2 hl hk
 rcases HK4.out with⟨rfl,hb1⟩|rfl
 all_goals
  clear HK4
  go_enter Tryz.func142,Tryz.ntmps142
  go_wp2_with fail
  refine HLD.out.mono ?_
  rintro e w1 ⟨a',cap',rfl,⟨n1,hn10,hn11,hc1⟩,hk1⟩
  have HC1:Hid (Cw w1 bc bd S T {D with reads:=D.reads+n1} C):=hc1
  have HK1:Hid (Kept (fun i=>i=bd) w w1):=hk1
  clear hc1 hk1
  go_wp2
  go_ret
  exact⟨rfl,⟨n1,hn10,hn11,HC1.out.kept0 (Kept.alloc _ _ _)⟩,HK1.out.trans (Kept.alloc (fun _=>False) _ _) fE⟩
end prog
end Go.Proofs.YtcoengihaobddaaGreatDoor

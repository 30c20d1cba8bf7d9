/- Part 18 of 34 of a proof: Chg5, Chg6, Tree9, Ins1, Ins2, Ins3 -/
import Derived.Test.YtcoengihaobddaaGreatDoorJk17
import Derived.Lib.Overlaps
import Derived.Lib.AppendZerosOnto
set_option maxHeartbeats 8000000
set_option linter.unusedVariables false
set_option linter.unusedSimpArgs false
set_option maxRecDepth 8000
namespace Go.Proofs.YtcoengihaobddaaGreatDoor
namespace prog
open Go.ChangeShapes Go.WideShapes Go.ChangeAt Go.RowKit disk ref
open keys (ze zd zr zn)
def uf(r:Nat):Int:=((2^r:Nat):Int)
theorem ug(w:World)(i:Nat)(hi:i≤1000000):Calls Tryz.prog 171 #[.int .i64 ((i:Int)+21)] w fun e w'=>e=.returned (.tuple #[.int .i64 (i/8:Nat),.int .u8 (uf (i%8))])∧∃n,w'=w.drewN n:=by
 go_enter Tryz.func171,Tryz.ntmps171
 go_wp2
 go_region
 go_wp2
 go_ret2
 have hp:=QK i
 have e:((2:Int)^(i%8))%256=uf (i%8):=by
  unfold uf
  have:((2:Int)^(i%8))=((2^(i%8):Nat):Int):=by simp
  rw [this]
  generalize 2^(i%8)=x at*
  omega
 exact⟨by rw [←e];simp,1,rfl⟩
theorem uh{w:World}{r:Nat}{t:TypeId}{zb qb:List Value}(h:w.heap[r]? =some (.cells zb.toArray t (0,0)))(hl:qb.length=zb.length):(w.setCells r 0 qb).heap[r]? =some (.cells qb.toArray t (0,0)):=by
 rw [zY r t qb 0 w _ h (by simp [hl])]
 congr 3;rw [List.take_zero,List.nil_append,List.drop_of_length_le (by simp [hl]),List.append_nil]
structure qn (b:List Value) (m:List UInt8):Prop where
 len:m.length=124
 is:b=zl (zL m)∨(b=zl (Pg.new 0)∧m=jA)
theorem vA(w:World)(bc bd:Nat)(S T:Nat→Prop)(D:Dk)(C:Ck)(h:Cw w bc bd S T D C)(m:List UInt8)(hm:qn (C.look D 2) m)(hr0:0≤D.reads)(hr1:D.reads≤4611686018427387904):
 Calls Tryz.prog 170 #[.pointer (some ⟨bc,0,none⟩)] w fun e w'=>e=.returned (.agg (zl (zL m)).toArray)∧(∃n:Int,0≤n∧n≤1∧Cw w' bc bd S T {D with reads:=D.reads+n} C)∧Kept (fun k=>k=bd) w w':=by
 obtain⟨Zb,hZb,hz⟩:∃Zb:List Value,Zb=zT∧∀w,(zeroValue 154).run Tryz.prog w=.ok (.agg Zb.toArray) w:=⟨zT,rfl,zV Tryz.infoPage⟩
 have HZb:Hid (zy Zb):=by rw [hZb];exact zF
 clear hZb
 have HI:Hid ((Tryz.prog.info? 154).map (·.size)=some 128):=zS Tryz.infoPage
 have HW:Hid _:=h
 have hbd:=h.disk.lt bd h.disk.bdS
 have HM:Hid _:=hm
 have HOK:Hid (zy (zl (zL m))):=qP (xi hm.len)
 have HS1:Hid (∀k,S k→k<w.heap.size):=h.disk.lt
 have HT1:Hid (∀k,T k→k<w.heap.size):=h.chg.lt
 clear h
 have HK1:Hid (Kept (fun _=>False) w (w.alloc (.cells Zb.toArray 154))):=Kept.alloc _ _ _
 rcases hm.is with he|⟨he,hn⟩
 ·have HE:Hid _:=he
  clear he hm
  go_enter Tryz.func170,Tryz.ntmps170
  go_wp2_with (first
   |(go_at_call 192;refine(jl _ bc bd S T D C (HW.out.kept0 HK1.out) 2 (by constructor<;>omega) hr0 hr1).mono ?_;rintro e w1 ⟨rfl,hcw,hk1⟩;rw [HE.out];have HCW:Hid _:=hcw;have HK2:Hid _:=hk1;have HB:Hid (w1.heap[w.heap.size]? =some (.cells Zb.toArray 154 (0,0))):=(hk1.block w.heap.size (by simp) (by omega)).trans (heap_alloc_new w _);clear hcw hk1)
   |(show wpList _ _ _ ({dst:=none,op:=.store _ (.tmp 3) (.tmp 5),type:=_,pos:=_,after:=_,guard:=_}::_) _ _;refine zg rfl 154 (.tmp 3) (.tmp 5) rfl _ _ (zl (zL m)) (by simp) rfl rfl (by rw [HOK.out.1];exact HI.out) (by rw [List.size_toArray,HZb.out.1,HOK.out.1]) HOK.out.2 ?_;have HP:Hid (qu (w1.alloc (.cells (zl (zL m)).toArray 154)) w1.heap.size (zL m)):=⟨⟨heap_alloc_new w1 _⟩,xi HM.out.len⟩)
   |(go_at_call 144;refine(jN _ _ _ HP.out).mono ?_;rintro e w2 ⟨rfl,rfl⟩;have hkd:(zL m).kind=3:=rfl;rw [hkd])
   |(show wpList _ _ _ ({dst:=some 11,op:=.load _ _,type:=_,pos:=_,after:=_,guard:=_}::_) _ _;refine wpList_load_mid rfl 154 (.tmp 3) rfl _ _ rfl (zl (zL m)) _ (zQ HP.out.bs.at_) yr rfl (by rw [HOK.out.1];exact HI.out) ?_;have HB2:Hid ((w1.alloc (.cells (zl (zL m)).toArray 154)).heap[w.heap.size]? =some (.cells Zb.toArray 154 (0,0))):=((Kept.alloc (fun _=>False) w1 _).block w.heap.size (lT HB.out) (fun hf=>hf)).trans HB.out)
   |(show wpList _ _ _ ({dst:=none,op:=.store _ (.tmp 2) (.tmp 11),type:=_,pos:=_,after:=_,guard:=_}::_) _ _;refine wpList_store_mid rfl 154 (.tmp 2) (.tmp 11) rfl _ _ _ rfl rfl (by have:=qN HB2.out;rw [HZb.out.1] at this;simpa [HOK.out.1] using this) (by rw [List.size_toArray,HOK.out.1];exact HI.out) (all_oneCell_toArray HOK.out.2) ?_))
  have hkf:Kept (fun k=>k=bd) w ((w1.alloc (.cells (zl (zL m)).toArray 154)).setCells w.heap.size 0 (zl (zL m))):=
   (((HK1.out.mono fE).trans HK2.out iL).trans (Kept.alloc _ _ _) iL).trans (Kept.setCells (S:=fun k=>k=w.heap.size) w.heap.size rfl _ 0 _) (fun j hj=>.inr (by rw [hj];exact Nat.le_refl _))
  have hb2:=uh HB2.out (show (zl (zL m)).length=Zb.length by rw [HOK.out.1,HZb.out.1])
  refine bodyPost_ret (v:=.agg (zl (zL m)).toArray) (results_cell_row Tryz.results170 _ _ w.heap.size 154 _ (0,0) _ rfl hb2 yr rfl (by rw [List.size_toArray,HOK.out.1];exact HI.out)) rfl ⟨rfl,?_,hkf⟩
  obtain⟨n,hn0,hn1,hcw⟩:=HCW.out
  exact⟨n,hn0,hn1,(hcw.kept0 (Kept.alloc _ _ _)).kept (Kept.setCells (S:=fun k=>k=w.heap.size) w.heap.size rfl _ 0 _) (fun k hk e=>by have:=HS1.out k hk;omega) (fun k hk e=>by have:=HT1.out k hk;omega)⟩
 ·have HE:Hid _:=he
  subst hn
  clear he hm
  have HN:Hid (zy (zl (Pg.new 0))):=qP (Pg.new_ok 0 (by omega))
  have HN3:Hid (zy (zl (Pg.new 3))):=qP (Pg.new_ok 3 (by omega))
  go_enter Tryz.func170,Tryz.ntmps170
  go_wp2_with (first
   |(go_at_call 192;refine(jl _ bc bd S T D C (HW.out.kept0 HK1.out) 2 (by constructor<;>omega) hr0 hr1).mono ?_;rintro e w1 ⟨rfl,hcw,hk1⟩;rw [HE.out];have HCW:Hid _:=hcw;have HK2:Hid _:=hk1;have HB:Hid (w1.heap[w.heap.size]? =some (.cells Zb.toArray 154 (0,0))):=(hk1.block w.heap.size (by simp) (by omega)).trans (heap_alloc_new w _);clear hcw hk1)
   |(show wpList _ _ _ ({dst:=none,op:=.store _ (.tmp 3) (.tmp 5),type:=_,pos:=_,after:=_,guard:=_}::_) _ _;refine zg rfl 154 (.tmp 3) (.tmp 5) rfl _ _ (zl (Pg.new 0)) (by simp) rfl rfl (by rw [HN.out.1];exact HI.out) (by rw [List.size_toArray,HZb.out.1,HN.out.1]) HN.out.2 ?_;have HP:Hid (qu (w1.alloc (.cells (zl (Pg.new 0)).toArray 154)) w1.heap.size (Pg.new 0)):=⟨⟨heap_alloc_new w1 _⟩,Pg.new_ok 0 (by omega)⟩)
   |(go_at_call 144;refine(jN _ _ _ HP.out).mono ?_;rintro e w2 ⟨rfl,rfl⟩;have hkd:(Pg.new 0).kind=0:=rfl;rw [hkd])
   |(go_at_call 131;refine(xQ _ 3 (by omega)).mono ?_;rintro e w2 ⟨rfl,hk2⟩;have HK3:Hid _:=hk2;have HP2:Hid (w2.heap[w1.heap.size]? =some (.cells (zl (Pg.new 0)).toArray 154 (0,0))):=(HP.out.kept hk2 (fun hf=>hf)).bs.at_;clear hk2)
   |(show wpList _ _ _ ({dst:=none,op:=.store _ (.tmp 3) (.tmp 8),type:=_,pos:=_,after:=_,guard:=_}::_) _ _;refine wpList_store_mid rfl 154 (.tmp 3) (.tmp 8) rfl _ _ _ rfl rfl (by have:=qN HP2.out;rw [HN.out.1] at this;simpa [HN3.out.1] using this) (by rw [List.size_toArray,HN3.out.1];exact HI.out) (all_oneCell_toArray HN3.out.2) ?_;have HP3:Hid (qu (w2.setCells w1.heap.size 0 (zl (Pg.new 3))) w1.heap.size (Pg.new 3)):=⟨⟨uh HP2.out (by rw [HN3.out.1,HN.out.1])⟩,Pg.new_ok 3 (by omega)⟩)
   |(go_at_call 129;refine(jh _ 3 (by omega)).mono ?_;rintro e w3 ⟨rfl,rfl⟩;have hrm:room 3=124:=rfl;rw [hrm])
   |(go_at_call 133;refine(jP _ _ _ HP3.out 124 (by decide) (by decide) (by decide)).mono ?_;rintro e w3 ⟨rfl,hp3,hk3⟩;rw [Xl] at hp3;have HP4:Hid _:=hp3;have HK4:Hid _:=hk3;clear hp3 hk3)
   |(show wpList _ _ _ ({dst:=some 11,op:=.load _ _,type:=_,pos:=_,after:=_,guard:=_}::_) _ _;refine wpList_load_mid rfl 154 (.tmp 3) rfl _ _ rfl (zl (zL jA)) _ (zQ HP4.out.bs.at_) yr rfl (by rw [HOK.out.1];exact HI.out) ?_;have HB2:Hid (w3.heap[w.heap.size]? =some (.cells Zb.toArray 154 (0,0))):=by {have hs1:w.heap.size+1≤w1.heap.size:=(by have:=HK2.out.size;simpa using this);exact(((((((Kept.alloc (fun _=>False) w1 _).trans HK3.out iL)).mono fE).trans (Kept.setCells (S:=fun k=>k=w1.heap.size) w1.heap.size rfl _ 0 _) (fun j hj=>.inl (by omega))).trans HK4.out (fun j hj=>.inl (by omega)):Kept (fun k=>w1.heap.size≤k) w1 w3).block w.heap.size (by omega) (by omega)).trans HB.out })
   |(show wpList _ _ _ ({dst:=none,op:=.store _ (.tmp 2) (.tmp 11),type:=_,pos:=_,after:=_,guard:=_}::_) _ _;refine wpList_store_mid rfl 154 (.tmp 2) (.tmp 11) rfl _ _ _ rfl rfl (by have:=qN HB2.out;rw [HZb.out.1] at this;simpa [HOK.out.1] using this) (by rw [List.size_toArray,HOK.out.1];exact HI.out) (all_oneCell_toArray HOK.out.2) ?_))
  have hs1:w.heap.size+1≤w1.heap.size:=by have:=HK2.out.size;simpa using this
  have hk1:Kept (fun k=>k=bd) w w1:=(HK1.out.mono fE).trans HK2.out iL
  have hk3:Kept (fun k=>k=bd) w w3:=((hk1.trans ((Kept.alloc (fun _=>False) w1 _).trans HK3.out iL) fE).trans (Kept.setCells (S:=fun k=>k=w1.heap.size) w1.heap.size rfl _ 0 _) (fun j hj=>.inr (by omega))).trans HK4.out (fun j hj=>.inr (by omega))
  have hk13:Kept (fun k=>w1.heap.size≤k) w1 w3:=(((((Kept.alloc (fun _=>False) w1 _).trans HK3.out iL)).mono fE).trans (Kept.setCells (S:=fun k=>k=w1.heap.size) w1.heap.size rfl _ 0 _) (fun j hj=>.inl (by omega))).trans HK4.out (fun j hj=>.inl (by omega))
  have hkf:Kept (fun k=>k=bd) w (w3.setCells w.heap.size 0 (zl (zL jA))):=hk3.trans (Kept.setCells (S:=fun k=>k=w.heap.size) w.heap.size rfl _ 0 _) (fun j hj=>.inr (by rw [hj];exact Nat.le_refl _))
  have hb2:=uh HB2.out (show (zl (zL jA)).length=Zb.length by rw [HOK.out.1,HZb.out.1])
  refine bodyPost_ret (v:=.agg (zl (zL jA)).toArray) (results_cell_row Tryz.results170 _ _ w.heap.size 154 _ (0,0) _ rfl hb2 yr rfl (by rw [List.size_toArray,HOK.out.1];exact HI.out)) rfl ⟨rfl,?_,hkf⟩
  obtain⟨n,hn0,hn1,hcw⟩:=HCW.out
  exact⟨n,hn0,hn1,(hcw.kept hk13 (fun k hk e=>by have:=HS1.out k hk;omega) (fun k hk e=>by have:=HT1.out k hk;omega)).kept (Kept.setCells (S:=fun k=>k=w.heap.size) w.heap.size rfl _ 0 _) (fun k hk e=>by have:=HS1.out k hk;omega) (fun k hk e=>by have:=HT1.out k hk;omega)⟩
theorem JE(x r:Nat)(h:x.testBit r=false):x&&&2^r=0:=by
 apply Nat.eq_of_testBit_eq
 intro s
 rw [Nat.testBit_and,vz,Nat.zero_testBit]
 by_cases e:r=s
 ·subst e;simp [h]
 ·simp [e]
theorem bK(x r:Nat)(h:x.testBit r=true):¬x&&&2^r=0:=fun e=>by
 have:(x&&&2^r).testBit r=true:=by rw [Nat.testBit_and,vz,h];simp
 rw [e] at this;simp at this
theorem Ky(x r:Nat)(hx:x<256)(hr:r<8):(bits BinOp.and IntKind.u8 (x:Int) (uf r)==0)= !x.testBit r:=by
 have hp:2^r<256:=by have:=Nat.pow_le_pow_right (show 0<2 by omega) (show r≤7 by omega);omega
 have e1:BitVec.ofInt 8 (x:Int)=BitVec.ofNat 8 x:=BitVec.ofInt_natCast ..
 have e2:BitVec.ofInt 8 (uf r)=BitVec.ofNat 8 (2^r):=BitVec.ofInt_natCast ..
 have e4:(BitVec.ofNat 8 x&&&BitVec.ofNat 8 (2^r)).toNat=x&&&2^r:=by
  have m1:x%256=x:=by omega
  have m2:2^r%256=2^r:=Nat.mod_eq_of_lt hp
  simp only [BitVec.toNat_and,BitVec.toNat_ofNat,show (2:Nat)^8=256 from rfl]
  rw [m1,m2]
 have e5:bits BinOp.and IntKind.u8 (x:Int) (uf r)=IntKind.u8.wrap ((BitVec.ofInt 8 (x:Int)&&&BitVec.ofInt 8 (uf r)).toNat:Nat):=rfl
 have e6:x&&&2^r<256:=Nat.lt_of_le_of_lt Nat.and_le_left hx
 rw [e5,e1,e2,e4,IntKind.wrap_u8]
 cases ht:x.testBit r with
 |false=>rw [JE x r ht];simp
 |true=>
  have:=bK x r ht
  generalize x&&&2^r=y at*
  simp;omega
theorem K5(x r:Nat)(hx:x<256)(hr:r<8):bits BinOp.or IntKind.u8 (x:Int) (uf r)=((x|||2^r:Nat):Int):=by
 have hp:2^r<256:=by have:=Nat.pow_le_pow_right (show 0<2 by omega) (show r≤7 by omega);omega
 have e1:BitVec.ofInt 8 (x:Int)=BitVec.ofNat 8 x:=BitVec.ofInt_natCast ..
 have e2:BitVec.ofInt 8 (uf r)=BitVec.ofNat 8 (2^r):=BitVec.ofInt_natCast ..
 have e4:(BitVec.ofNat 8 x|||BitVec.ofNat 8 (2^r)).toNat=x|||2^r:=by
  have m1:x%256=x:=by omega
  have m2:2^r%256=2^r:=Nat.mod_eq_of_lt hp
  simp only [BitVec.toNat_or,BitVec.toNat_ofNat,show (2:Nat)^8=256 from rfl]
  rw [m1,m2]
 have e5:bits BinOp.or IntKind.u8 (x:Int) (uf r)=IntKind.u8.wrap ((BitVec.ofInt 8 (x:Int)|||BitVec.ofInt 8 (uf r)).toNat:Nat):=rfl
 have e6:x|||2^r<256:=Nat.or_lt_two_pow (n:=8) hx hp
 rw [e5,e1,e2,e4,IntKind.wrap_u8]
 omega
theorem map_set{w:World}{b:Nat}{m:List UInt8}(hm:m.length=124)(h:qu w b (zL m))(i:Nat)(hi:i/8<124)(v:Nat)(hv:v<256):qu (w.setCell ⟨b,4+i/8,none⟩ (.int .u8 (v:Int))) b (zL (m.set (i/8) (UInt8.ofNat v))):=by
 have hb:=h.bs.set (4+i/8) (UInt8.ofNat v)
 rw [jM _ hv,xY hm] at hb
 refine⟨?_,xi (by simp [hm])⟩
 rw [xY (by simp [hm])]
 have e:([3,124,0,0]++m).set (4+i/8) (UInt8.ofNat v)=[3,124,0,0]++m.set (i/8) (UInt8.ofNat v):=by
  rw [List.set_append_right _ _ (by simp)];simp
 rw [e] at hb
 exact hb
theorem Zd{w:World}{b:Nat}{m:List UInt8}(hm:m.length=124)(h:qu w b (zL m))(j:Nat)(hj:j<124):w.cell? ⟨b,4+j,none⟩=some (.int .u8 ((m.getD j 0).toNat:Int)):=by
 have hb:=h.bs.cell (4+j) (by rw [xY hm];simp [hm];omega)
 simp only [xY hm] at hb
 rw [hb,List.getD_eq_getElem?_getD,List.getElem?_eq_getElem (by omega),Option.getD_some,List.getElem_append_right (by simp)]
 simp
theorem ui(w:World)(bd:Nat)(S:Nat→Prop)(D:Dk)(h:zh w bd S D):
 Calls Tryz.prog 54 #[.pointer (some ⟨bd,0,none⟩)] w fun e w'=>e=.returned (.int .i64 D.bs.length)∧w'=w:=by
 obtain⟨ba,pa,bc,pc,h⟩:=h;exact kK w bd S D ba pa bc pc h
theorem qm.setFull{w:World}{bc bd:Nat}{T:Nat→Prop}{C:Ck}{a:Option Addr}{cap:Nat}(h:qm w bc bd T C a cap):qm (w.setCell ⟨bc,2,none⟩ (.bool true)) bc bd T {C with full:=true} a cap:=by
 refine⟨h.ok,?_,?_,h.own,h.ap,h.few⟩
 ·rw [heap_setCell_same w bc 2 _ _ _ h.head];rfl
 ·exact(Kept.setCell (S:=fun k=>k=bc) w ⟨bc,2,none⟩ _ rfl).owns h.row (fun k hk e=>h.ap (by rw [hk,e]))
structure VO (w w':World) (bc bd:Nat) (S T:Nat→Prop) (D:Dk) (C:Ck) (m:List UInt8) (a:Int) (C':Ck):Prop where
 at_:∃(n:Int) (T':Nat→Prop),0≤n∧n≤1∧Cw w' bc bd S T' {D with reads:=D.reads+n} C'∧∀k,T' k→T k∨w.heap.size≤k
 kept:Kept (fun k=>k=bd∨T k) w w'
 is:(∃i:Nat,a=(i:Int)+21∧i+21<D.bs.length∧zO m i=false∧(∀j,j<i→zO m j=true)∧C'=C.put 2 (zl (zL (kT m i))))∨(a=0∧(∀i,i+21<D.bs.length→zO m i=true)∧C'={C with full:=true })
theorem JF(w:World)(bc bd:Nat)(S T:Nat→Prop)(D:Dk)(C:Ck)(h:Cw w bc bd S T D C)(m:List UInt8)(hm:qn (C.look D 2) m)(hr0:0≤D.reads)(hr1:D.reads≤4611686018427387904)(hfew:C.ws.length<1000):
 Calls Tryz.prog 134 #[.pointer (some ⟨bc,0,none⟩)] w fun e w'=>∃a C',e=.returned (.int .i64 a)∧VO w w' bc bd S T D C m a C':=by
 obtain⟨Zb,hZb,hz⟩:∃Zb:List Value,Zb=zT∧∀w,(zeroValue 154).run Tryz.prog w=.ok (.agg Zb.toArray) w:=⟨zT,rfl,zV Tryz.infoPage⟩
 have HZb:Hid (zy Zb):=by rw [hZb];exact zF
 clear hZb
 have HI:Hid ((Tryz.prog.info? 154).map (·.size)=some 128):=zS Tryz.infoPage
 have HW:Hid _:=h
 have HM:Hid _:=hm
 have hml:=hm.len
 have HOK:Hid (zy (zl (zL m))):=qP (xi hm.len)
 have HS1:Hid (∀k,S k→k<w.heap.size):=h.disk.lt
 have HT1:Hid (∀k,T k→k<w.heap.size):=h.chg.lt
 have hbl:=h.disk.ok.few
 clear h hm
 go_enter Tryz.func134,Tryz.ntmps134
 go_wp2_with (first
  |(go_at_call 170;refine(vA _ bc bd S T D C HW.out m HM.out hr0 hr1).mono ?_;rintro e w1 ⟨rfl,hcw,hk1⟩;have HCW:Hid _:=hcw;have HK1:Hid _:=hk1;clear hcw hk1)
  |(show wpList _ _ _ ({dst:=none,op:=.store _ (.tmp 3) (.tmp 9),type:=_,pos:=_,after:=_,guard:=_}::_) _ _;refine zg rfl 154 (.tmp 3) (.tmp 9) rfl _ _ (zl (zL m)) (by simp) rfl rfl (by rw [HOK.out.1];exact HI.out) (by rw [List.size_toArray,HZb.out.1,HOK.out.1]) HOK.out.2 ?_;have HP:Hid (qu (w1.alloc (.cells (zl (zL m)).toArray 154)) w1.heap.size (zL m)):=⟨⟨heap_alloc_new w1 _⟩,xi HM.out.len⟩)
  |(go_at_call 125;refine(xu _ _ _ HP.out).mono ?_;rintro e w2 ⟨rfl,n2,rfl⟩))
 have HPW:Hid (qu ((w1.alloc (.cells (zl (zL m)).toArray 154)).drewN n2) w1.heap.size (zL m)):=HP.out.kept (T:=fun _=>False) kD (fun hf=>hf)
 have HKW:Hid (Kept (fun _=>False) w1 ((w1.alloc (.cells (zl (zL m)).toArray 154)).drewN n2)):=(Kept.alloc _ _ _).trans (S':=fun _=>False) kD iL
 obtain⟨nr,hn0,hn1,hcw⟩:=HCW.out
 have HCW2:Hid (Cw w1 bc bd S T {D with reads:=D.reads+nr} C):=hcw
 clear hcw HCW
 generalize (w1.alloc (.cells (zl (zL m)).toArray 154)).drewN n2=W at*
 generalize hb0:w1.heap.size=b0 at*
 have hitv:xj b0 (zL m).kind (zL m).items.length=.slice (some ⟨b0,4,none⟩) 124 124:=by simp [xj,zL,zk,hml]
 rw [hitv]
 clear hitv HP
 go_loopw [5] (fun t wr=>∃(i n:Nat),i≤979∧(i=0∨i+21≤D.bs.length)∧t=.int .i64 ((i:Int)+21)∧wr=W.drewN n∧∀j,j<i→zO m j=true) (fun t _=>1000-(intOf t).toNat)
 case atStart=>exact⟨0,0,by omega,.inl rfl,rfl,rfl,fun _ h=>by omega⟩
 case round=>
  obtain⟨i,n,hi,hi2,rfl,rfl,hall⟩:=hrel
  have HALL:Hid _:=hall
  clear hall
  have hkn:Kept (fun _=>False) W (W.drewN n):=kD
  have HKN:Hid _:=hkn
  have HCN:Hid (Cw (W.drewN n) bc bd S T {D with reads:=D.reads+nr} C):=(HCW2.out.kept0 HKW.out).kept0 hkn
  have hc0:W.cell? ⟨bc,0,none⟩=some (.pointer (some ⟨bd,0,none⟩)):=by obtain⟨a,cap,hc⟩:=HCN.out.chg;exact hc.c0
  clear hkn
  by_cases hlt:i+21<D.bs.length
  ·have hcell:=Zd HM.out.len HPW.out (i/8) (by omega)
   have hfz:=HPW.out.bs.fz (4+i/8)
   have hand:=Ky (m.getD (i/8) 0).toNat (i%8) (m.getD (i/8) 0).toNat_lt (by omega)
   have HT:Hid (zO m i=(m.getD (i/8) 0).toNat.testBit (i%8)):=rfl
   have hx:=(m.getD (i/8) 0).toNat_lt
   have HSET:Hid (kT m i=m.set (i/8) (UInt8.ofNat ((m.getD (i/8) 0).toNat|||2^(i%8)))):=rfl
   have hor:=K5 (m.getD (i/8) 0).toNat (i%8) (m.getD (i/8) 0).toNat_lt (by omega)
   have HV:Hid ((m.getD (i/8) 0).toNat|||2^(i%8)<256):=Nat.or_lt_two_pow (n:=8) hx (QK i)
   generalize (m.getD (i/8) 0).toNat=x at*
   cases ht:zO m i with
   |true=>
    have ht2:x.testBit (i%8)=true:=HT.out.symm.trans ht
    rw [ht2] at hand
    have HT2:Hid _:=ht
    go_wp2_with (first
     |(go_at_call 54;refine(ui _ bd S _ HCN.out.disk).mono ?_;rintro e w3 ⟨rfl,rfl⟩)
     |(go_at_call 171;refine(ug _ i (by omega)).mono ?_;rintro e w3 ⟨rfl,n3,rfl⟩))
    go_roundw
    case rel=>exact⟨i+1,n+n3,by omega,by omega,by go_num,rfl,fun j hj=>by
     by_cases e:j=i
     ·subst e;exact HT2.out
     ·exact HALL.out j (by omega)⟩
    case measure=>simp [intOf];omega
   |false=>
    have ht2:x.testBit (i%8)=false:=HT.out.symm.trans ht
    rw [ht2] at hand
    have HT2:Hid _:=ht
    go_wp2_with (first
     |(go_at_call 54;refine(ui _ bd S _ HCN.out.disk).mono ?_;rintro e w3 ⟨rfl,rfl⟩)
     |(go_at_call 171;refine(ug _ i (by omega)).mono ?_;rintro e w3 ⟨rfl,n3,rfl⟩)
     |(show wpList _ _ _ ({dst:=some 40,op:=.load _ _,type:=_,pos:=_,after:=_,guard:=_}::_) _ _;have HP5:Hid (qu ((W.drewN (n+n3)).setCell ⟨b0,4+i/8,none⟩ (.int .u8 ((x|||2^(i%8):Nat):Int))) b0 (zL (kT m i))):=(by {have h1:qu (W.drewN (n+n3)) b0 (zL m):=HPW.out.kept (T:=fun _=>False) kD (fun hf=>hf);have h2:=map_set HM.out.len h1 i (by omega) (x|||2^(i%8)) HV.out;rw [←HSET.out] at h2;exact h2 });have HO5:Hid (zy (zl (zL (kT m i)))):=qP (xi (by rw [Za];exact HM.out.len));refine wpList_load_mid rfl 154 (.tmp 3) rfl _ _ rfl (zl (zL (kT m i))) _ (zQ HP5.out.bs.at_) yr rfl (by rw [HO5.out.1];exact HI.out) ?_)
     |(go_at_call 135;refine(xF _ bc bd S T {D with reads:=D.reads+nr} C ((HCW2.out.kept0 HKW.out).kept (X:=fun k=>k=b0) (w':=(W.drewN (n+n3)).setCell ⟨b0,4+i/8,none⟩ (.int .u8 ((x|||2^(i%8):Nat):Int))) (Kept.trans (b:=W.drewN (n+n3)) kD (Kept.setCell (S:=fun k=>k=b0) _ _ _ rfl) iL) (fun k hk e=>by have:=HS1.out k hk;have:=HK1.out.size;omega) (fun k hk e=>by have:=HT1.out k hk;have:=HK1.out.size;omega)) 2 (zl (zL (kT m i))) HO5.out hfew).mono ?_;rintro e w4 ⟨rfl,⟨T',hcw4,hT4⟩,hk4⟩;have HCW4:Hid _:=hcw4;have HT4:Hid _:=hT4;have HK4:Hid _:=hk4;clear hcw4 hT4 hk4))
    go_ret
    have hk1:Kept (fun k=>k=bd∨T k) w ((W.drewN (n+n3)).setCell ⟨b0,4+i/8,none⟩ (.int .u8 ((x|||2^(i%8):Nat):Int))):=
     ((HK1.out.mono iL).trans HKW.out fE).trans (S':=fun k=>k=b0) (Kept.trans (b:=W.drewN (n+n3)) kD (Kept.setCell (S:=fun k=>k=b0) _ _ _ rfl) iL) (fun k hk=>.inr (by have:=HK1.out.size;omega))
    refine⟨_,_,rfl,⟨nr,T',hn0,hn1,HCW4.out,fun k hk=>?_⟩,hk1.trans HK4.out (fun k hk=>.inl (.inr hk)),.inl ⟨i,rfl,hlt,HT2.out,HALL.out,rfl⟩⟩
    rcases HT4.out k hk with h1|h1
    ·exact .inl h1
    ·right;have h2:=hk1.size;omega
  ·have hcf:∃a cap,qm W bc bd T C a cap:=(HCW2.out.kept0 HKW.out).chg
   obtain⟨a,cap,hcf⟩:=hcf
   have hc2:=hcf.c2
   have hf2:=hcf.fz 2
   have HCF:Hid _:=hcf
   clear hcf
   go_wp2_with (go_at_call 54;refine(ui _ bd S _ HCN.out.disk).mono ?_;rintro e w3 ⟨rfl,rfl⟩)
   go_ret
   have hkf:Kept (fun k=>k=bc) W ((W.drewN n).setCell ⟨bc,2,none⟩ (.bool true)):=Kept.trans (b:=W.drewN n) kD (Kept.setCell (S:=fun k=>k=bc) _ _ _ rfl) iL
   have hbcT:=HCF.out.bcT
   refine⟨_,_,rfl,⟨nr,T,hn0,hn1,⟨HCN.out.disk.kept (Kept.setCell (S:=fun k=>k=bc) _ ⟨bc,2,none⟩ _ rfl) (fun k hk e=>HW.out.apart k hk (by rw [e];exact hbcT)),⟨a,cap,(HCF.out.kept HKN.out nF).setFull⟩,HW.out.apart⟩,fun k hk=>.inl hk⟩,?_,.inr ⟨rfl,fun j hj=>?_,rfl⟩⟩
   ·exact((HK1.out.mono iL).trans HKW.out fE).trans hkf (fun k hk=>.inl (.inr (by rw [hk];exact hbcT)))
   ·exact HALL.out j (by omega)
theorem zH.take{w:World}{P:Nat→Prop}{g o:Nat}{es:List En}(h:zH w P (some ⟨g,o,none⟩) es)(m:Nat):zH w P (some ⟨g,o,none⟩) (es.take m):=by
 refine⟨?_,by have:=h.few;rw [List.length_take];omega⟩
 rcases h.at_ with h0|⟨g',o',h1,h2,h3,h4⟩
 ·left;rw [h0];simp
 ·cases h1
  right
  refine⟨g,o,rfl,h2,h3,fun k hk=>?_⟩
  rw [List.length_take] at hk
  rw [List.getElem_take]
  exact h4 k (by omega)
theorem zH.drop{w:World}{P:Nat→Prop}{g o:Nat}{es:List En}(h:zH w P (some ⟨g,o,none⟩) es)(m:Nat):zH w P (some ⟨g,o+m*5,none⟩) (es.drop m):=by
 refine⟨?_,by have:=h.few;rw [List.length_drop];omega⟩
 rcases h.at_ with h0|⟨g',o',h1,h2,h3,h4⟩
 ·left;rw [h0];simp
 ·cases h1
  right
  refine⟨g,o+m*5,rfl,h2,h3,fun k hk=>?_⟩
  rw [List.length_drop] at hk
  rw [List.getElem_drop,show o+m*5+k*5=o+(m+k)*5 from by omega]
  exact h4 (m+k) (by omega)
theorem yf(w:World)(bc bd:Nat)(S T:Nat→Prop)(D:Dk)(C:Ck)(h:Cw w bc bd S T D C)(hr0:0≤D.reads)(hr1:D.reads≤4611686018427387904)(at_:Nat)(hat:at_<65536)(k:Nat)(es:List En)(hk:k=4∨k=5)(hes:∀e∈es,e.Ok)(h4:k=4→∀e∈es,e.mark=false∧e.size=0)(hlen:es.length≤6)(hl:C.look D at_=zl (za k es)):
 Calls Tryz.prog 174 #[.iface 142 (.pointer (some ⟨bc,0,none⟩)),.int .i64 at_] w fun e w'=>∃a' cap',e=.returned (.agg #[.int .u8 (k:Int),.slice a' es.length cap'])∧(∃n:Int,0≤n∧n≤1∧Cw w' bc bd S T {D with reads:=D.reads+n} C)∧Kept (fun i=>i=bd) w w'∧zH w' (fun b=>w.heap.size≤b) a' es∧w'.ownsRow 0 109 5 (.slice a' es.length cap') es.length (es.map qp).flatten∧(∀j,(Value.slice a' es.length cap').ownBlock=some j→w.heap.size≤j):=by
 have hS:=h.disk.lt
 have hT:=h.chg.lt
 have hbd:bd<w.heap.size:=hS bd h.disk.bdS
 refine(cX w 142 192 ⟨bc,0,none⟩ (gY _) (fun i=>i=bd) (fun w1=>w.heap.size≤w1.heap.size∧∃n:Int,0≤n∧n≤1∧Cw w1 bc bd S T {D with reads:=D.reads+n} C) at_ k es hk hes h4 hlen (fun w0 hk0=>?_) (fun i hi=>by rw [hi];exact hbd)).mono ?_
 ·refine(jl w0 bc bd S T D C (h.kept0 hk0) at_ (by constructor<;>omega) hr0 hr1).mono ?_
  rintro e w1 ⟨rfl,h1,h2⟩
  rw [hl]
  exact⟨rfl,h2,Nat.le_trans hk0.size h2.size,h1⟩
 ·rintro e w' ⟨w1,a',cap',rfl,h1,⟨hz,n,n0,n1,h2⟩,h3,h4⟩
  refine⟨a',cap',rfl,⟨n,n0,n1,h2.kept h3 (fun i hi hc=>?_) (fun i hi hc=>?_)⟩,h1.trans h3 (fun j hj=>.inr hj),h4⟩
  ·have:=hS i hi;omega
  ·have:=hT i hi;omega
theorem dB(w:World)(bd:Nat)(S:Nat→Prop)(D:Dk)(h:zh w bd S D)(hr0:0≤D.reads)(hr1:D.reads≤4611686018427387904)(at_:Nat)(hat:at_<65536)(k:Nat)(es:List En)(hk:k=4∨k=5)(hes:∀e∈es,e.Ok)(h4:k=4→∀e∈es,e.mark=false∧e.size=0)(hlen:es.length≤6)(hl:D.look at_=zl (za k es)):
 Calls Tryz.prog 174 #[.iface 29 (.pointer (some ⟨bd,0,none⟩)),.int .i64 at_] w fun e w'=>∃a' cap',e=.returned (.agg #[.int .u8 (k:Int),.slice a' es.length cap'])∧zh w' bd S {D with reads:=D.reads+1}∧Kept (fun i=>i=bd) w w'∧zH w' (fun b=>w.heap.size≤b) a' es∧w'.ownsRow 0 109 5 (.slice a' es.length cap') es.length (es.map qp).flatten∧(∀j,(Value.slice a' es.length cap').ownBlock=some j→w.heap.size≤j):=by
 have hS:=h.lt
 have hbd:bd<w.heap.size:=hS bd h.bdS
 refine(cX w 29 81 ⟨bd,0,none⟩ (ud _) (fun i=>i=bd) (fun w1=>w.heap.size≤w1.heap.size∧zh w1 bd S {D with reads:=D.reads+1 }) at_ k es hk hes h4 hlen (fun w0 hk0=>?_) (fun i hi=>by rw [hi];exact hbd)).mono ?_
 ·refine(xy w0 bd S D (h.kept hk0 nF) at_ (by constructor<;>omega) hr0 hr1).mono ?_
  rintro e w1 ⟨rfl,h1,h2⟩
  rw [hl]
  exact⟨rfl,h2,Nat.le_trans hk0.size h2.size,h1⟩
 ·rintro e w' ⟨w1,a',cap',rfl,h1,⟨hz,h2⟩,h3,h4⟩
  refine⟨a',cap',rfl,h2.kept h3 (fun i hi hc=>?_),h1.trans h3 (fun j hj=>.inr hj),h4⟩
  have:=hS i hi;omega
theorem qq(C:Ck)(i:Nat)(b:List Value):(C.put i b).ws.length≤C.ws.length+1:=by
 cases hx:qH C.ws i with
 |none=>rw [xX b hx];simp
 |some k=>obtain⟨hk,e⟩:=xE b hx;rw [e];simp
theorem jQ(w:World)(bc bd:Nat)(S T:Nat→Prop)(D:Dk)(C:Ck)(h:Cw w bc bd S T D C)(P:Nat→Prop)(a:Option Addr)(cap:Nat)(k:Nat)(hk:k=4∨k=5)(es:List En)(hr:zH w P a es)(hes:∀e∈es,e.Ok)(hlen:es.length≤6)(at_:Nat)(hfew:C.ws.length<1000)(n:Nat)(hn:es.length=n):
 Calls Tryz.prog 173 #[.agg #[.int .u8 (k:Int),.slice a n cap],.pointer (some ⟨bc,0,none⟩),.int .i64 at_] w fun r w'=>r=.returned (.tuple #[])∧(∃T',Cw w' bc bd S T' D (C.put at_ (zl (za k es)))∧∀j,T' j→T j∨w.heap.size≤j)∧Kept T w w':=by
 subst hn
 exact JB w bc bd S T D C h P a cap k hk es hr hes hlen at_ hfew
theorem Ze(w:World)(o1 o2 o3 o4:Obj):((((w.alloc o1).alloc o2).alloc o3).alloc o4).drew.heap[w.heap.size]? =some o1∧((((w.alloc o1).alloc o2).alloc o3).alloc o4).drew.heap[w.heap.size+1]? =some o2∧((((w.alloc o1).alloc o2).alloc o3).alloc o4).drew.heap[w.heap.size+1+1]? =some o3∧((((w.alloc o1).alloc o2).alloc o3).alloc o4).drew.heap[w.heap.size+1+1+1]? =some o4∧Kept (fun _=>False) w ((((w.alloc o1).alloc o2).alloc o3).alloc o4).drew∧((((w.alloc o1).alloc o2).alloc o3).alloc o4).drew.heap.size=w.heap.size+4:=by
 have s1:(w.alloc o1).heap.size=w.heap.size+1:=by simp
 have s2:((w.alloc o1).alloc o2).heap.size=w.heap.size+1+1:=by simp
 have s3:(((w.alloc o1).alloc o2).alloc o3).heap.size=w.heap.size+1+1+1:=by simp
 have s4:((((w.alloc o1).alloc o2).alloc o3).alloc o4).heap.size=w.heap.size+4:=by simp
 have k1:=Kept.alloc (fun _=>False) w o1
 have k2:=Kept.alloc (fun _=>False) (w.alloc o1) o2
 have k3:=Kept.alloc (fun _=>False) ((w.alloc o1).alloc o2) o3
 have k4:=Kept.alloc (fun _=>False) (((w.alloc o1).alloc o2).alloc o3) o4
 have n1:=heap_alloc_new w o1
 have n2:=heap_alloc_new (w.alloc o1) o2
 have n3:=heap_alloc_new ((w.alloc o1).alloc o2) o3
 have n4:=heap_alloc_new (((w.alloc o1).alloc o2).alloc o3) o4
 rw [s1] at n2
 rw [s2] at n3
 rw [s3] at n4
 refine⟨?_,?_,?_,n4,?_,s4⟩
 ·exact((k4.block _ (by omega) id).trans ((k3.block _ (by omega) id).trans ((k2.block _ (by omega) id).trans n1)))
 ·exact((k4.block _ (by omega) id).trans ((k3.block _ (by omega) id).trans n2))
 ·exact((k4.block _ (by omega) id).trans n3)
 ·exact(((k1.trans k2 iL).trans k3 iL).trans k4 iL).trans (Kept.drew _ _) iL
theorem dC(w:World)(bc bd:Nat)(S T:Nat→Prop)(D:Dk)(C:Ck)(h:Cw w bc bd S T D C)(P:Nat→Prop)(hPT:∀j,P j→¬T j)(a:Option Addr)(cap:Nat)(k:Nat)(hk:k=4∨k=5)(es:List En)(hr:zH w P a es)(hes:∀e∈es,e.Ok)(m:Nat)(hm:m=es.length/2)(hlen2:m<es.length)(hlen:es.length≤12)(hcap:es.length≤cap)(hcap2:cap≤9223372036854775807)(la ra:Nat)(hfew:C.ws.length<900):
 Calls Tryz.prog 200 #[.agg #[.int .u8 (k:Int),.slice a es.length cap],.pointer (some ⟨bc,0,none⟩),.int .i64 la,.int .i64 ra] w fun r w'=>r=.returned (.agg #[.string es[m].pl.key,.int .i64 es[m].pl.num])∧(∃T',Cw w' bc bd S T' D ((C.put la (zl (za k (es.take m)))).put ra (zl (za k (es.drop m))))∧∀j,T' j→T j∨w.heap.size≤j)∧Kept T w w':=by
 obtain⟨g,o,rfl⟩:=hr.base (by omega)
 have HH:Hid _:=h
 have HR:Hid _:=hr
 have HT1:Hid (zH w P (some ⟨g,o,none⟩) (es.take m)):=hr.take m
 have HT2:Hid (zH w P (some ⟨g,o+m*5,none⟩) (es.drop m)):=hr.drop m
 have hl1:(es.take m).length=m:=by rw [List.length_take];omega
 have hl2:(es.drop m).length=es.length-m:=List.length_drop ..
 have HMI:Hid ((es.length:Int)/2=(m:Int)):=by show (es.length:Int)/2=(m:Int);omega
 have hcI:(m:Int)≤(cap:Int):=by omega
 have hm6:m≤6:=by omega
 have hm7:es.length-m≤6:=by omega
 have HO1:Hid (∀e∈es.take m,e.Ok):=fun e he=>hes e (List.mem_of_mem_take he)
 have HO2:Hid (∀e∈es.drop m,e.Ok):=fun e he=>hes e (List.mem_of_mem_drop he)
 clear hes
 have hmn:¬cap=m:=by omega
 clear h hr
 go_enter Tryz.func200,Tryz.ntmps200
 go_wp2
 rw [HMI.out]
 clear HMI hm
 have hmL:(m:Int)≤(es.length:Int):=by omega
 have hcL:(es.length:Int)≤(cap:Int):=by omega
 go_region_held3 (fun w'=>w'.cell? ⟨w.heap.size,0,none⟩=some (.int .u8 (k:Int))∧w'.cell? ⟨w.heap.size,1,none⟩=some (.slice (some ⟨g,o,none⟩) es.length cap)) (go_keep) (fail)
 obtain⟨_,n8,n2,n3,kW,sW⟩:=Ze w (.cells #[.int .u8 (k:Int),.slice (some ⟨g,o,none⟩) es.length cap] 209) (.cells #[.string ⟨#[]⟩,.int .i64 0] 107) (.cells #[.int .u8 (k:Int),.slice (some ⟨g,o,none⟩) m cap] 209) (.cells #[.int .u8 (k:Int),.slice (some ⟨g,o+m*5,none⟩) (es.length-m) (cap-m)] 209)
 have HN8:Hid _:=n8
 have HNl:Hid _:=n2
 have HNr:Hid _:=n3
 have HKW:Hid _:=kW
 clear n8 n2 n3 kW
 generalize ((((w.alloc (.cells #[.int .u8 (k:Int),.slice (some ⟨g,o,none⟩) es.length cap] 209)).alloc (.cells #[.string ⟨#[]⟩,.int .i64 0] 107)).alloc (.cells #[.int .u8 (k:Int),.slice (some ⟨g,o,none⟩) m cap] 209)).alloc (.cells #[.int .u8 (k:Int),.slice (some ⟨g,o+m*5,none⟩) (es.length-m) (cap-m)] 209)).drew=W at*
 generalize hbr:w.heap.size+1+1+1=br at*
 generalize hbl:w.heap.size+1+1=bl at*
 rotate_left
 obtain⟨_,n8,n2,n3,kW,sW⟩:=Ze w (.cells #[.int .u8 (k:Int),.slice (some ⟨g,o,none⟩) es.length cap] 209) (.cells #[.string ⟨#[]⟩,.int .i64 0] 107) (.cells #[.int .u8 (k:Int),.slice (some ⟨g,o+m*5,none⟩) (es.length-m) (cap-m)] 209) (.cells #[.int .u8 (k:Int),.slice (some ⟨g,o,none⟩) m cap] 209)
 have HN8:Hid _:=n8
 have HNr:Hid _:=n2
 have HNl:Hid _:=n3
 have HKW:Hid _:=kW
 clear n8 n2 n3 kW
 generalize ((((w.alloc (.cells #[.int .u8 (k:Int),.slice (some ⟨g,o,none⟩) es.length cap] 209)).alloc (.cells #[.string ⟨#[]⟩,.int .i64 0] 107)).alloc (.cells #[.int .u8 (k:Int),.slice (some ⟨g,o+m*5,none⟩) (es.length-m) (cap-m)] 209)).alloc (.cells #[.int .u8 (k:Int),.slice (some ⟨g,o,none⟩) m cap] 209)).drew=W at*
 generalize hbl:w.heap.size+1+1+1=bl at*
 generalize hbr:w.heap.size+1+1=br at*
 rotate_left
 all_goals
  have hl0:W.cell? ⟨bl,0,none⟩=some (.int .u8 (k:Int)):=cR HNl.out rfl
  have hl1':W.cell? ⟨bl,1,none⟩=some (.slice (some ⟨g,o,none⟩) m cap):=cR HNl.out rfl
  have HCW:Hid (Cw W bc bd S T D C):=HH.out.kept0 HKW.out
  have hTl:=HH.out.chg.lt
  have hlr:bl<W.heap.size∧br<W.heap.size∧w.heap.size≤bl∧w.heap.size≤br:=by omega
  have HE1:Hid (zH W P (some ⟨g,o,none⟩) (es.take m)):=HT1.out.kept HKW.out nF
  have HE2:Hid (zH W P (some ⟨g,o+m*5,none⟩) (es.drop m)):=HT2.out.kept HKW.out nF
  have hnT:∀j,w.heap.size≤j→¬T j:=fun j hj hT=>by have:=hTl j hT;omega
  have HNT:Hid (∀j,w.heap.size≤j→¬T j):=hnT
  clear hTl hnT
  have HPT:Hid (∀j,P j→¬T j):=hPT
  clear hPT
  have HGE:Hid ((es.drop m)[0]'(by omega)=es[m]):=by show (es.drop m)[0]'(by omega)=es[m];rw [List.getElem_drop];rfl
  generalize hem:es[m]=em at*
  have HEM:Hid (es[m]=em):=hem
  clear hem
  go_wp2_with (first
   |(go_at_call 173;refine(jQ w1 bc bd S T1 D _ HC1.out _ _ (cap-m) k hk (es.drop m) HER.out HO2.out (by omega) ra (by have:=qq C la (zl (za k (es.take m)));omega) (es.length-m) hl2).mono ?_;rintro r w2 ⟨rfl,⟨T2,hc2,hT2⟩,hk2⟩;have HC2:Hid _:=hc2;have HTT2:Hid _:=hT2;have HK2:Hid (Kept T1 w1 w2):=hk2;have hKA:Kept T W w2:=HK1.out.trans hk2 HTT1.out;have HKA:Hid (Kept T W w2):=hKA;have HNr2:Hid (w2.heap[br]? =_):=(hKA.block br hlr.2.1 (HNT.out br hlr.2.2.2)).trans HNr.out;have hr2:w2.cell? ⟨br,1,none⟩=some (.slice (some ⟨g,o+m*5,none⟩) (es.length-m) (cap-m)):=(cR HNr2.out rfl);have HN82:Hid (w2.heap[w.heap.size+1]? =_):=(hKA.block (w.heap.size+1) (by omega) (HNT.out _ (by omega))).trans HN8.out;have hg0:w2.cell? ⟨w.heap.size+1,0,none⟩=some (.string ⟨#[]⟩):=(cR HN82.out rfl);have hg1:w2.cell? ⟨w.heap.size+1,1,none⟩=some (.int .i64 0):=(cR HN82.out rfl);have hf0:=frozen_of_row w2 (w.heap.size+1) 0 _ _ HN82.out;have hf1:=frozen_of_row w2 (w.heap.size+1) 1 _ _ HN82.out;obtain⟨e0,e1, -, -, -, -, -⟩:=(HE2.out.kept hKA (fun j hj=>HPT.out j hj)).cells 0 (by omega);rw [Nat.zero_mul,Nat.add_zero,HGE.out] at e0 e1;have hpos:(0:Int)<((es.length-m:Nat):Int):=(by omega);clear hc2 hT2 hk2 hKA)
   |(go_at_call 173;refine(jQ W bc bd S T D C HCW.out P _ cap k hk (es.take m) HE1.out HO1.out (by omega) la (by omega) m hl1).mono ?_;rintro r w1 ⟨rfl,⟨T1,hc1,hT1⟩,hk1⟩;have HC1:Hid _:=hc1;have HTT1:Hid _:=hT1;have HK1:Hid (Kept T W w1):=hk1;have HER:Hid (zH w1 (fun j=>P j∧j<W.heap.size) (some ⟨g,o+m*5,none⟩) (es.drop m)):=(HE2.out.below.kept hk1 (fun j hj=>HPT.out j hj.1));have HNr1:Hid (w1.heap[br]? =_):=(hk1.block br hlr.2.1 (HNT.out br hlr.2.2.2)).trans HNr.out;have hr0:w1.cell? ⟨br,0,none⟩=some (.int .u8 (k:Int)):=(cR HNr1.out rfl);have hr1:w1.cell? ⟨br,1,none⟩=some (.slice (some ⟨g,o+m*5,none⟩) (es.length-m) (cap-m)):=(cR HNr1.out rfl);clear hc1 hT1 hk1))
  have hh1:=heap_setCell_same w2 (w.heap.size+1) 0 _ _ (.string em.pl.key) HN82.out
  have hh2:=heap_setCell_same _ (w.heap.size+1) 1 _ _ (.int .i64 em.pl.num) hh1
  have kS:Kept (fun j=>j=w.heap.size+1) w2 ((w2.setCell ⟨w.heap.size+1,0,none⟩ (.string em.pl.key)).setCell ⟨w.heap.size+1,1,none⟩ (.int .i64 em.pl.num)):=(Kept.setCell (S:=fun j=>j=w.heap.size+1) w2 ⟨w.heap.size+1,0,none⟩ _ rfl).trans (Kept.setCell (S:=fun j=>j=w.heap.size+1) _ ⟨w.heap.size+1,1,none⟩ _ rfl) iL
  have hT2:∀j,T2 j→T j∨W.heap.size≤j:=fun j hj=>by
   rcases HTT2.out j hj with h1|h1
   ·exact HTT1.out j h1
   ·right;have:=HK1.out.size;omega
  have hlt2:w.heap.size<w2.heap.size:=by have:=HKA.out.size;omega
  have hSl:=HH.out.disk.lt
  refine bodyPost_ret (v:=.agg #[.string em.pl.key,.int .i64 em.pl.num]) (results_cell_row Tryz.results200 _ _ (w.heap.size+1) 107 _ (0,0) _ rfl hh2 Tryz.underlying107 rfl (by kernel_rfl)) rfl ⟨by rw [HEM.out],⟨T2,HC2.out.kept kS (fun j hj e0=>by have:=hSl j hj;omega) (fun j hj e0=>?_),fun j hj=>(hT2 j hj).imp id (fun h=>by omega)⟩,?_⟩
  ·subst e0
   rcases hT2 _ hj with h1|h1
   ·exact HNT.out _ (by omega) h1
   ·omega
  ·exact((HKW.out.mono fE).trans HKA.out iL).trans kS (fun j hj=>.inr (by omega))
theorem da{P:Program}(w:World)(dT sT ty elem:TypeId)(size g o dLen dCap:Nat)(a:Addr)(sLen sCap:Nat)(cur:Array Value)(t:TypeId)(cs:List Value)
 (hu:P.underlying dT=some (.slice elem)) (hs:(P.info? elem).map (·.size)=some size)
 (hg:w.heap[g]? =some (.cells cur t (0,0))) (hn:Nat.min sLen dLen*size=cs.length)
 (hsrc:∀j v,cs[j]? =some v→w.cell? (a.add j)=some v) (hfit:o+cs.length≤cur.size) (h1:∀v∈cs,v.oneCell'=true):
 (Builtin.copy_ #[dT,sT] ty #[.slice (some ⟨g,o,none⟩) dLen dCap,.slice (some a) sLen sCap]).run P w=
  .ok (goInt (Nat.min sLen dLen)) (w.setRow g (cur.toList.take o++cs++cur.toList.drop (o+cs.length)).toArray):=by
 have hl:=run_loadCells_list (P:=P) w a cs hsrc
 have hst:=run_storeCells_at P g o t cs 0 cur w hg (by simpa using hfit) h1
 cases hq:P.info? elem with
 |none=>simp [hq] at hs
 |some i=>
  have hi:i.size=size:=by simpa [hq] using hs
  simp only [Nat.add_zero] at hst
  simp [Builtin.copy_,run_underlying hu,Builtin.lenOf,Builtin.firstCells,sizeOf,typeInfo,hq,hi,hn,hl,hst]
def V6(args:Array Value):Sem Value:=Builtin.copy_ #[207, 207] 3 args
theorem JG(args:Array Value):Builtin.copy_ #[207, 207] 3 args=V6 args:=rfl
def Vs(args:Array Value):Sem Value:=Builtin.append_ #[207, 3] 207 args
theorem Kz(args:Array Value):Builtin.append_ #[207, 3] 207 args=Vs args:=rfl
def zf(es:List En):List Value:=(es.map qp).flatten
theorem qM(es:List En):(zf es).length=es.length*5:=by
 induction es with
 |nil=>rfl
 |cons e r ih=>rw [zf,List.map_cons,List.flatten_cons,List.length_append];rw [zf] at ih;rw [ih];simp [qp];omega
theorem qF(A B:List En):zf (A++B)=zf A++zf B:=by simp [zf]
theorem yW(e:En)(B:List En):zf (e::B)=qp e++zf B:=by simp [zf]
theorem jm(es:List En):∀v∈zf es,v.oneCell'=true:=fun v hv=>by
 obtain⟨l,hl,hv⟩:=List.mem_flatten.1 hv
 obtain⟨e,he,rfl⟩:=List.mem_map.1 hl
 simp [qp] at hv
 rcases hv with rfl|rfl|rfl|rfl|rfl<;>rfl
theorem YD(e:En):∀v∈qp e,v.oneCell'=true:=fun v hv=>jm [e] v (by rw [yW];exact List.mem_append_left _ hv)
theorem Tryz.entry_size:(Tryz.prog.info? 109).map (·.size)=some 5:=zS Tryz.infoEntry
theorem gm(w:World)(g o dLen dCap:Nat)(a:Addr)(sLen sCap:Nat)(cur:Array Value)(t:TypeId)(cs:List Value)
 (hg:w.heap[g]? =some (.cells cur t (0,0))) (hn:Nat.min sLen dLen*5=cs.length)
 (hsrc:∀j v,cs[j]? =some v→w.cell? (a.add j)=some v) (hfit:o+cs.length≤cur.size) (h1:∀v∈cs,v.oneCell'=true):
 (V6 #[.slice (some ⟨g,o,none⟩) dLen dCap,.slice (some a) sLen sCap]).run Tryz.prog w=
  .ok (goInt (Nat.min sLen dLen)) (w.setRow g (cur.toList.take o++cs++cur.toList.drop (o+cs.length)).toArray):=
 da w 207 207 3 109 5 g o dLen dCap a sLen sCap cur t cs Tryz.underlying207 Tryz.entry_size hg hn hsrc hfit h1
theorem Xo(A B:List Value)(v:List Value)(sp:List Value)(k:Nat)(hv:v.length=k)(hsp:k≤sp.length):
 let cur:=A++B++sp
 let cur1:=cur.take (A.length+k)++B++cur.drop (A.length+k+B.length)
 cur1.take A.length++v++cur1.drop (A.length+k)=A++v++B++sp.drop k:=by
 have h1:(A++B++sp).drop (A.length+k+B.length)=sp.drop k:=by
  rw [show A.length+k+B.length=(A++B).length+k by rw [List.length_append];omega,List.drop_append,List.drop_eq_nil_of_le (by omega),List.nil_append,Nat.add_sub_cancel_left]
 have h2:((A++B++sp).take (A.length+k)).length=A.length+k:=by rw [List.length_take,List.length_append,List.length_append];omega
 have h3:((A++B++sp).take (A.length+k)).take A.length=A:=by
  rw [List.take_take,Nat.min_eq_left (by omega),List.append_assoc,List.take_append_of_le_length (Nat.le_refl _),List.take_length]
 simp only
 rw [h1,List.append_assoc ((A++B++sp).take _) B]
 rw [List.take_append_of_le_length (by omega),h3,List.drop_append_of_le_length (by omega),List.drop_eq_nil_of_le (by omega)]
 simp
structure kU (w w':World) (a:Option Addr) (n cap:Nat) (es':List En) (g cp:Nat):Prop where
 own:w'.ownsRow 0 109 5 (.slice (some ⟨g,0,none⟩) es'.length cp) es'.length (zf es')
 at_:(Value.slice a n cap).ownBlock=some g∨w.heap.size≤g
 kept:Kept (fun j=>(Value.slice a n cap).ownBlock=some j) w w'
section
attribute [local go_sem ↓] gl
theorem bL(w:World)(a:Option Addr)(n cap:Nat)(es:List En)(hn:es.length=n)(h:w.ownsRow 0 109 5 (.slice a n cap) n (zf es))(vb:Nat)(e:En)(hb:w.heap[vb]? =some (.cells (qp e).toArray 109 (0,0)))(hl:n≤1000)(hcap:n≤cap)(hcap2:cap≤9223372036854775807):
 Calls Tryz.prog 177 #[.slice a n cap,.int .i64 n,.slice (some ⟨vb,0,none⟩) 1 1] w fun r w'=>∃g cp,r=.returned (.slice (some ⟨g,0,none⟩) (n+1) cp)∧kU w w' a n cap (es++[e]) g cp:=by
 obtain⟨g,cp,w1,hrun,hown,hgrow,hat,hgl⟩:=cW w a n cap (zf es) h vb e hb hl
 have HF:Hid (kU w w1 a n cap (es++[e]) g cp):=by
  refine⟨?_,hat.imp id (fun h=>by omega),Kept.grown hgrow (fun j hj=>hj)⟩
  rw [List.length_append,List.length_singleton,hn,qF,yW]
  simpa [zf] using hown
 clear hown hgrow hat hgl h
 have hcI:(n:Int)≤(cap:Int):=by omega
 go_enter Tryz.func177,Tryz.ntmps177
 cases a with
 |none=>
  go_wp2
  all_goals
   go_ret
   exact⟨g,cp,rfl,HF.out⟩
 |some a=>
  by_cases hcn:cap=n
  ·subst hcn
   go_wp2
   all_goals
    go_ret
    exact⟨g,cp,rfl,HF.out⟩
  ·go_wp2
   all_goals
    go_ret
    exact⟨g,cp,rfl,HF.out⟩
end
theorem db(w:World)(vb g la ca lb cb o:Nat)(hne:vb≠g)(cur:Array Value)(vs:List Value)(hv:w.heap[vb]? =some (.cells vs.toArray 109 (0,0)))(hg:w.heap[g]? =some (.cells cur 109 (0,0)))(hc:cur.size≠0):
 (callFunc 198 #[.slice (some ⟨vb,0,none⟩) la ca,.slice (some ⟨g,o,none⟩) lb cb]).run Tryz.prog w=.ok (.value (.bool false)) w:=by
 rw [run_callFunc_extern Tryz.func198 (by kernel_rfl) (by kernel_rfl) (by kernel_rfl) (e:=Extern.SlicesOverlaps.overlaps #[207, 207] #[4]) (by kernel_rfl),
  Lib.run_overlaps_apart w 207 4 109 Tryz.underlying207 5 (yO Tryz.entry_size) ⟨vb,0,none⟩ ⟨g,o,none⟩ la ca lb cb hne 109 109 vs.length cur.size (by simp [World.shape?, hv]) (by simp [World.shape?, hg]) hc (frozen_of_row w vb 0 _ _ hv) (frozen_of_row w vb _ _ _ hv)]
 rfl
section
attribute [local go_sem ↓] JG
theorem dc(w:World)(g n cap i:Nat)(es:List En)(hn:es.length=n)(h:w.ownsRow 0 109 5 (.slice (some ⟨g,0,none⟩) n cap) n (zf es))(vb:Nat)(hvb:vb≠g)(e:En)(hb:w.heap[vb]? =some (.cells (qp e).toArray 109 (0,0)))(hl:n≤1000)(hi:i<n)(hroom:n+1≤cap)(hcap2:cap≤9223372036854775807):
 Calls Tryz.prog 177 #[.slice (some ⟨g,0,none⟩) n cap,.int .i64 i,.slice (some ⟨vb,0,none⟩) 1 1] w fun r w'=>∃g' cp,r=.returned (.slice (some ⟨g',0,none⟩) (n+1) cp)∧kU w w' (some ⟨g,0,none⟩) n cap (es.take i++e::es.drop i) g' cp:=by
 obtain⟨cur,hg,hsz,htk⟩:∃cur,w.heap[g]? =some (.cells cur 109 (0,0))∧cur.size=cap*5∧cur.toList.take (n*5)=zf es:=by
  rcases h.2 with⟨h1,_⟩|⟨g',cap',cur,hv,_,hg,_,_,hs,ht⟩
  ·cases h1
  ·cases hv;exact⟨cur,hg,hs,ht⟩
 have hov:∀o lb cb,(callFunc 198 #[.slice (some ⟨vb,0,none⟩) 1 1,.slice (some ⟨g,o,none⟩) lb cb]).run Tryz.prog w=.ok (.value (.bool false)) w:=fun o lb cb=>db w vb g 1 1 lb cb o hvb cur (qp e) hb hg (by omega)
 have hcl:cur.toList=zf (es.take i)++zf (es.drop i)++cur.toList.drop (n*5):=by
  rw [←qF,List.take_append_drop,←htk,List.take_append_drop]
 have hlA:(zf (es.take i)).length=i*5:=by rw [qM,List.length_take,Nat.min_eq_left (by omega)]
 have hlB:(zf (es.drop i)).length=(n-i)*5:=by rw [qM,List.length_drop,hn]
 have hcp1:=gm w.drew g ((i+1)*5) (n+1-(i+1)) (cap-(i+1)) ⟨g,i*5,none⟩ (n+1-i) (cap-i) cur 109 (zf (es.drop i)) hg (by rw [hlB];rw [show Nat.min (n+1-i) (n+1-(i+1))=n-i from by simp only [Nat.min_def];split<;>omega])
  (fun j v hj=>by
   rw [Addr.add_lit]
   show w.cell? ⟨g,i*5+j,none⟩=some v
   rw [cell_of_row w g (i*5+j) _ _ _ hg,←Array.getElem?_toList,hcl,List.append_assoc,List.getElem?_append_right (by omega),hlA,Nat.add_sub_cancel_left,List.getElem?_append_left (by have:=(List.getElem?_eq_some_iff.1 hj).1;omega)]
   exact hj) (by rw [hlB];omega) (jm _)
 have HIC:=Xo (zf (es.take i)) (zf (es.drop i)) (qp e) (cur.toList.drop (n*5)) 5 rfl (by rw [List.length_drop,Array.length_toList];omega)
 simp only at HIC
 rw [←hcl,hlA,hlB] at HIC
 rw [hlB,show (i+1)*5=i*5+5 from by omega] at hcp1
 generalize hc1:cur.toList.take (i*5+5)++zf (es.drop i)++cur.toList.drop (i*5+5+(n-i)*5)=c1 at*
 have hc1l:c1.length=cap*5:=by rw [←hc1];simp only [List.length_append,List.length_take,List.length_drop,Array.length_toList,hlB];omega
 have hg1:(w.drew.setRow g c1.toArray).heap[g]? =some (.cells c1.toArray 109 (0,0)):=setRow_heap w.drew g _ _ 109 _ hg
 have hK1:Kept (fun j=>j=g) w (w.drew.setRow g c1.toArray):=⟨rfl,rfl,rfl,by simp,fun k _ hk=>setRow_other w.drew g k _ (fun e=>hk (by rw [e]))⟩
 have hvl:vb<w.heap.size:=(lT hb)
 have hgl:g<w.heap.size:=(lT hg)
 generalize w.drew.setRow g c1.toArray=W1 at*
 have hb1:W1.heap[vb]? =_:=(hK1.block vb hvl hvb).trans hb
 have hcp2:=gm W1 g (i*5) (n+1-i) (cap-i) ⟨vb,0,none⟩ 1 1 c1.toArray 109 (qp e) hg1 (by rw [show Nat.min 1 (n+1-i)=1 from by simp only [Nat.min_def];split<;>omega];rfl)
  (fun j v hj=>by
   rw [Addr.add_lit,Nat.zero_add,cell_of_row W1 vb j _ _ _ hb1]
   simpa using hj) (by rw [List.size_toArray,hc1l];simp [qp];omega) (YD _)
 have hel:(qp e).length=5:=rfl
 rw [List.toList_toArray,hel,HIC] at hcp2
 have hg2:=setRow_heap W1 g _ ((zf (es.take i)++qp e++zf (es.drop i)++(cur.toList.drop (n*5)).drop 5).toArray) 109 _ hg1
 have hK2:Kept (fun j=>j=g) W1 (W1.setRow g ((zf (es.take i)++qp e++zf (es.drop i)++(cur.toList.drop (n*5)).drop 5).toArray)):=⟨rfl,rfl,rfl,by simp,fun k _ hk=>setRow_other W1 g k _ (fun e=>hk (by rw [e]))⟩
 generalize W1.setRow g _=W2 at*
 have HF:Hid (kU w W2 (some ⟨g,0,none⟩) n cap (es.take i++e::es.drop i) g cap):=by
  have hll:(es.take i++e::es.drop i).length=n+1:=by simp only [List.length_append,List.length_take,List.length_cons,List.length_drop];omega
  have hfl:zf (es.take i++e::es.drop i)=zf (es.take i)++qp e++zf (es.drop i):=by rw [qF,yW,List.append_assoc]
  refine⟨⟨by rw [qM],.inr ⟨g,cap,_,rfl,Nat.zero_le _,hg2,by omega,by unfold maxLen;omega,?_,?_⟩⟩,.inl rfl,(hK1.trans hK2 iL).mono (fun j hj=>by rw [hj];rfl)⟩
  ·simp only [List.size_toArray,List.length_append,List.length_drop,Array.length_toList,hlA,hlB,hel];omega
  ·rw [List.toList_toArray,hfl,hll,List.take_append_of_le_length (by simp only [List.length_append,hlA,hlB,hel];omega),List.take_of_length_le (by simp only [List.length_append,hlA,hlB,hel];omega)]
 clear hcl HIC hg2 hK2 hg1 hK1 hc1 hc1l hlA hlB htk hsz hg h hb hb1
 have hiI:(i:Int)<(n:Int):=by omega
 have hne:¬(i:Int)=(n:Int):=by omega
 have hcI:(n:Int)+1≤(cap:Int):=by omega
 have hcn:¬(cap:Int)<(n:Int)+1:=by omega
 have hc2:¬cap=i:=by omega
 have hc3:¬cap=i+1:=by omega
 rw [show n+1-(i+1)=n-i from by omega,show i*5+5=(i+1)*5 from by omega] at hcp1
 go_enter Tryz.func177,Tryz.ntmps177
 go_wp2_with (simp only [hov])
 go_region
 go_wp2
 go_ret
 exact⟨g,cap,rfl,HF.out⟩
end
theorem QM(A B Z:List Value)(v:List Value)(sp:List Value)(hZ:Z.length=v.length+B.length):
 let cur:=A++Z++sp
 let cur1:=cur.take A.length++v++cur.drop (A.length+v.length)
 cur1.take (A.length+v.length)++B++cur1.drop (A.length+v.length+B.length)=A++v++B++sp:=by
 simp only
 have h1:(A++Z++sp).take A.length=A:=by rw [List.append_assoc,List.take_append_of_le_length (Nat.le_refl _),List.take_length]
 have h2:(A++Z++sp).drop (A.length+v.length)=Z.drop v.length++sp:=by
  rw [List.append_assoc,←List.drop_drop,List.drop_append_of_le_length (Nat.le_refl _),List.drop_length,List.nil_append,List.drop_append_of_le_length (by omega)]
 rw [h1,h2]
 have h3:(A++v).length=A.length+v.length:=List.length_append
 rw [←h3,List.take_append_of_le_length (Nat.le_refl _),List.take_length,←List.drop_drop,List.drop_append_of_le_length (Nat.le_refl _),List.drop_length,List.nil_append]
 have h4:(Z.drop v.length).length=B.length:=by rw [List.length_drop];omega
 rw [←h4,List.drop_append_of_le_length (Nat.le_refl _),List.drop_length,List.nil_append]
section
attribute [local go_sem ↓] JG Kz
theorem dd(w:World)(g n cap i:Nat)(es:List En)(hn:es.length=n)(h:w.ownsRow 0 109 5 (.slice (some ⟨g,0,none⟩) n cap) n (zf es))(vb:Nat)(hvb:vb≠g)(e:En)(hb:w.heap[vb]? =some (.cells (qp e).toArray 109 (0,0)))(hl:n≤1000)(hi:i<n)(hroom:cap<n+1)(hnc:n≤cap):
 Calls Tryz.prog 177 #[.slice (some ⟨g,0,none⟩) n cap,.int .i64 i,.slice (some ⟨vb,0,none⟩) 1 1] w fun r w'=>∃g' cp,r=.returned (.slice (some ⟨g',0,none⟩) (n+1) cp)∧kU w w' (some ⟨g,0,none⟩) n cap (es.take i++e::es.drop i) g' cp:=by
 have hcn:cap=n:=by omega
 subst hcn
 obtain⟨cur,hg,hsz,htk⟩:∃cur,w.heap[g]? =some (.cells cur 109 (0,0))∧cur.size=cap*5∧cur.toList.take (cap*5)=zf es:=by
  rcases h.2 with⟨h1,_⟩|⟨g',cap',cur,hv,_,hg,_,_,hs,ht⟩
  ·cases h1
  ·cases hv;exact⟨cur,hg,hs,ht⟩
 have hcl:cur.toList=zf (es.take i)++zf (es.drop i):=by
  rw [←qF,List.take_append_drop,←htk,List.take_of_length_le (by rw [Array.length_toList,hsz];exact Nat.le_refl _)]
 have hlA:(zf (es.take i)).length=i*5:=by rw [qM,List.length_take,Nat.min_eq_left (by omega)]
 have hlB:(zf (es.drop i)).length=(cap-i)*5:=by rw [qM,List.length_drop,hn]
 obtain⟨i0,hi0,hz0,hz1,hz2⟩:=info_parts Tryz.infoEntry
 have hgw:∀j v,(zf (es.take i)++zf (es.drop i))[j]? =some v→w.cell? ⟨g,j,none⟩=some v:=fun j v hj=>by
  rw [cell_of_row w g j _ _ _ hg,←Array.getElem?_toList,hcl];exact hj
 have hold:(Builtin.firstCells i0.size i (.slice (some ⟨g,0,none⟩) i cap)).run Tryz.prog w.drew=.ok (zf (es.take i)).toArray w.drew:=by
  rw [hz1]
  exact run_firstCells_some w.drew 5 i ⟨g,0,none⟩ i cap (zf (es.take i)) (by rw [hlA]) (fun j v hj=>by
   rw [Addr.add_lit,Nat.zero_add]
   show w.cell? ⟨g,j,none⟩=some v
   exact hgw j v (by rw [List.getElem?_append_left (List.getElem?_eq_some_iff.1 hj).1];exact hj))
 have hik:i+(cap+1-i)=cap+1:=by omega
 have hrz:(Vs #[.slice (some ⟨g,0,none⟩) i cap,.int .i64 ((cap+1-i:Nat):Int)]).run Tryz.prog w=_:=
  Lib.run_append_grow_zeros w 207 3 207 109 i0 _ .i64 .i64 Tryz.underlying207 Tryz.underlying3 hi0 hz0 (some ⟨g,0,none⟩) i cap (zf (es.take i)) hold (cap+1-i) (by omega) (by omega) (by omega) (by omega) (by rw [hz2];omega) (by rw [hz2,hik];exact growslice_fits (by omega) (by omega))
 rw [hik] at hrz
 have hG1:=grownCap_ge w (cap+1) cap 109
 have hG2:=grownCap_le_maxLen w (cap+1) cap 109 (by unfold maxLen;omega)
 generalize grownCap w (cap+1) cap 109=G at*
 have hZl:∀k,(Builtin.zeroCells (Value.agg #[.string ⟨#[]⟩,.int .i64 0,.bool false,.int .i64 0,.int .i64 0]).cells k).toList.length=k*5:=fun k=>by simp [Builtin.zeroCells,Value.cells]
 have hZ1:=hZl (cap+1-i)
 have hZ2:=hZl (G-(cap+1))
 clear hZl hold hi0 hz0 hz1 hz2 h htk
 generalize Builtin.zeroCells (Value.agg #[.string ⟨#[]⟩,.int .i64 0,.bool false,.int .i64 0,.int .i64 0]).cells (cap+1-i)=ZZ at*
 generalize Builtin.zeroCells (Value.agg #[.string ⟨#[]⟩,.int .i64 0,.bool false,.int .i64 0,.int .i64 0]).cells (G-(cap+1))=SP at*
 have hRl:((zf (es.take i)).toArray++ZZ++SP).toList=zf (es.take i)++ZZ.toList++SP.toList:=by simp
 have hRs:((zf (es.take i)).toArray++ZZ++SP).size=G*5:=by rw [←Array.length_toList,hRl,List.length_append,List.length_append,hlA,hZ1,hZ2];omega
 generalize (zf (es.take i)).toArray++ZZ++SP=R at*
 have hel:(qp e).length=5:=rfl
 have HIC:=QM (zf (es.take i)) (zf (es.drop i)) ZZ.toList (qp e) SP.toList (by rw [hZ1,hlB,hel];omega)
 simp only at HIC
 rw [←hRl,hlA,hlB,hel] at HIC
 have hvl:vb<w.heap.size:=(lT hb)
 have hgl:g<w.heap.size:=(lT hg)
 have hg1:(w.drew.alloc (.cells R 109)).heap[w.heap.size]? =some (.cells R 109 (0,0)):=heap_alloc_new w.drew _
 have hK1:Kept (fun _=>False) w (w.drew.alloc (.cells R 109)):=Kept.trans (b:=w.drew) (Kept.drew _ w) (Kept.alloc _ _ _) iL
 generalize w.drew.alloc (.cells R 109)=W1 at*
 have hb1:W1.heap[vb]? =_:=(hK1.block vb hvl id).trans hb
 have hcp1:=gm W1 w.heap.size (i*5) (cap+1-i) (G-i) ⟨vb,0,none⟩ 1 1 R 109 (qp e) hg1 (by rw [show Nat.min 1 (cap+1-i)=1 from by simp only [Nat.min_def];split<;>omega];rfl)
  (fun j v hj=>by
   rw [Addr.add_lit,Nat.zero_add,cell_of_row W1 vb j _ _ _ hb1]
   simpa using hj) (by rw [hRs,hel];omega) (YD _)
 rw [hel] at hcp1
 generalize hR1:R.toList.take (i*5)++qp e++R.toList.drop (i*5+5)=R1 at*
 have hR1l:R1.length=G*5:=by rw [←hR1];simp only [List.length_append,List.length_take,List.length_drop,Array.length_toList,hel];omega
 have hg2:(W1.setRow w.heap.size R1.toArray).heap[w.heap.size]? =some (.cells R1.toArray 109 (0,0)):=setRow_heap W1 w.heap.size _ _ 109 _ hg1
 have hK2:Kept (fun j=>j=w.heap.size) W1 (W1.setRow w.heap.size R1.toArray):=⟨rfl,rfl,rfl,by simp,fun k _ hk=>setRow_other W1 w.heap.size k _ (fun e=>hk (by rw [e]))⟩
 generalize W1.setRow w.heap.size R1.toArray=W2 at*
 have hgW:W2.heap[g]? =_:=(hK2.block g (by have:=hK1.size;omega) (by omega)).trans ((hK1.block g hgl id).trans hg)
 have hcp2:=gm W2.drew w.heap.size (i*5+5) (cap-i) (G-(i+1)) ⟨g,i*5,none⟩ (cap-i) (cap-i) R1.toArray 109 (zf (es.drop i)) hg2 (by rw [hlB];rw [show Nat.min (cap-i) (cap-i)=cap-i from by simp])
  (fun j v hj=>by
   rw [Addr.add_lit]
   show W2.cell? ⟨g,i*5+j,none⟩=some v
   rw [cell_of_row W2 g (i*5+j) _ _ _ hgW,←Array.getElem?_toList,hcl,List.getElem?_append_right (by omega),hlA,Nat.add_sub_cancel_left]
   exact hj) (by rw [List.size_toArray,hR1l,hlB];omega) (jm _)
 rw [List.toList_toArray,hlB,HIC] at hcp2
 have hg3:=setRow_heap W2.drew w.heap.size _ ((zf (es.take i)++qp e++zf (es.drop i)++SP.toList).toArray) 109 _ hg2
 have hK3:Kept (fun j=>j=w.heap.size) W2 (W2.drew.setRow w.heap.size ((zf (es.take i)++qp e++zf (es.drop i)++SP.toList).toArray)):=⟨rfl,rfl,rfl,by simp,fun k _ hk=>setRow_other W2.drew w.heap.size k _ (fun e=>hk (by rw [e]))⟩
 generalize W2.drew.setRow w.heap.size _=W3 at*
 have HF:Hid (kU w W3 (some ⟨g,0,none⟩) cap cap (es.take i++e::es.drop i) w.heap.size G):=by
  have hll:(es.take i++e::es.drop i).length=cap+1:=by simp only [List.length_append,List.length_take,List.length_cons,List.length_drop];omega
  have hfl:zf (es.take i++e::es.drop i)=zf (es.take i)++qp e++zf (es.drop i):=by rw [qF,yW,List.append_assoc]
  refine⟨⟨by rw [qM],.inr ⟨w.heap.size,G,_,rfl,Nat.zero_le _,hg3,by omega,hG2,?_,?_⟩⟩,.inr (Nat.le_refl _),(((hK1.mono fE).trans hK2 (fun j hj=>.inr (by omega))).trans hK3 (fun j hj=>.inr (by omega)))⟩
  ·simp only [List.size_toArray,List.length_append,hlA,hlB,hel,hZ2];omega
  ·rw [List.toList_toArray,hfl,hll,List.take_append_of_le_length (by simp only [List.length_append,hlA,hlB,hel];omega),List.take_of_length_le (by simp only [List.length_append,hlA,hlB,hel];omega)]
 unfold maxLen at hG2
 clear hcl HIC hg2 hK2 hg1 hK1 hR1 hR1l hlA hlB hsz hg hb hb1 hgw hRl hRs hg3 hK3 hgW hZ1 hZ2 hn
 have hiI:(i:Int)<(cap:Int):=by omega
 have hne:¬(i:Int)=(cap:Int):=by omega
 have hcI:(cap:Int)<(cap:Int)+1:=by omega
 have hkk:((cap+1-i:Nat):Int)=(cap:Int)+1-(i:Int):=by omega
 rw [hkk] at hrz
 have hc2:¬cap=i:=by omega
 have hc3:¬G=i+1:=by omega
 have hc4:¬G=i:=by omega
 rw [show i*5+5=(i+1)*5 from by omega] at hcp2
 clear hkk
 go_enter Tryz.func177,Tryz.ntmps177
 go_wp2
 go_region
 go_wp2
 go_ret
 exact⟨w.heap.size,G,rfl,HF.out⟩
end
theorem vB(w:World)(a:Option Addr)(n cap i:Nat)(es:List En)(hn:es.length=n)(h:w.ownsRow 0 109 5 (.slice a n cap) n (zf es))(vb:Nat)(hvb:(Value.slice a n cap).ownBlock≠some vb)(e:En)(hb:w.heap[vb]? =some (.cells (qp e).toArray 109 (0,0)))(hl:n≤1000)(hi:i≤n):
 Calls Tryz.prog 177 #[.slice a n cap,.int .i64 i,.slice (some ⟨vb,0,none⟩) 1 1] w fun r w'=>∃g' cp,r=.returned (.slice (some ⟨g',0,none⟩) (n+1) cp)∧kU w w' a n cap (es.take i++e::es.drop i) g' cp:=by
 have hcc:n≤cap∧cap≤9223372036854775807:=by
  rcases h.2 with⟨h1,h2⟩|⟨g',cap',cur,hv,_,hg,h1,h2,hs,ht⟩
  ·cases h1;omega
  ·cases hv;unfold maxLen at h2;omega
 by_cases hin:i=n
 ·subst hin
  have:=bL w a i cap es hn h vb e hb hl hcc.1 hcc.2
  rw [List.take_of_length_le (by omega),List.drop_of_length_le (by omega)]
  exact this
 ·have hlt:i<n:=by omega
  rcases h.2 with⟨h1,h2⟩|⟨g',cap',cur,hv,_⟩
  ·omega
  ·cases hv
   have hvb':vb≠g':=fun e0=>hvb (by rw [e0];rfl)
   by_cases hroom:n+1≤cap
   ·exact dc w g' n cap i es hn h vb hvb' e hb hl hlt hroom hcc.2
   ·exact dd w g' n cap i es hn h vb hvb' e hb hl hlt (by omega) hcc.1
def vC(N:Nat)(m:List UInt8):Option Nat:=(List.range (N-21)).find? fun i=> !zO m i
theorem fa{N:Nat}{m:List UInt8}{i:Nat}(h1:i+21<N)(h2:zO m i=false)(h3:∀j,j<i→zO m j=true):vC N m=some i:=by
 unfold vC
 rw [List.find?_range_eq_some]
 refine⟨by simpa using h2,by simp;omega,fun j hj=>by simpa using h3 j hj⟩
theorem fc{N:Nat}{m:List UInt8}(h:∀i,i+21<N→zO m i=true):vC N m=none:=by
 unfold vC
 rw [List.find?_eq_none]
 intro i hi
 have:=h i (by simp at hi;omega)
 simpa using this
theorem Zf{N:Nat}{m:List UInt8}{i:Nat}(h:vC N m=some i):i+21<N∧zO m i=false∧∀j,j<i→zO m j=true:=by
 unfold vC at h
 rw [List.find?_range_eq_some] at h
 obtain⟨h1,h2,h3⟩:=h
 refine⟨by simp at h2;omega,by simpa using h1,fun j hj=>by simpa using h3 j hj⟩
def Ck.take(C:Ck)(N:Nat)(m:List UInt8):Nat×Ck×List UInt8:=match vC N m with
 |some i=>(i+21,C.put 2 (zl (zL (kT m i))),kT m i)
 |none=>(0,{C with full:=true},m)
theorem fd(w:World)(bc bd:Nat)(S T:Nat→Prop)(D:Dk)(C:Ck)(h:Cw w bc bd S T D C)(m:List UInt8)(hm:qn (C.look D 2) m)(hr0:0≤D.reads)(hr1:D.reads≤4611686018427387904)(hfew:C.ws.length<1000):
 Calls Tryz.prog 134 #[.pointer (some ⟨bc,0,none⟩)] w fun e w'=>e=.returned (.int .i64 ((C.take D.bs.length m).1:Nat))∧(∃(n:Int) (T':Nat→Prop),0≤n∧n≤1∧Cw w' bc bd S T' {D with reads:=D.reads+n} (C.take D.bs.length m).2.1∧∀k,T' k→T k∨w.heap.size≤k)∧Kept (fun k=>k=bd∨T k) w w':=by
 refine(JF w bc bd S T D C h m hm hr0 hr1 hfew).mono ?_
 rintro e w' ⟨a,C',rfl,ht⟩
 have hd:=ht.is
 refine⟨?_,?_,ht.kept⟩
 ·rcases hd with⟨i,rfl,h1,h2,h3,rfl⟩|⟨rfl,h1,rfl⟩
  ·unfold Ck.take;rw [fa h1 h2 h3];rfl
  ·unfold Ck.take;rw [fc h1];rfl
 ·have e1:(C.take D.bs.length m).2.1=C':=by
   rcases hd with⟨i,rfl,h1,h2,h3,rfl⟩|⟨rfl,h1,rfl⟩
   ·unfold Ck.take;rw [fa h1 h2 h3]
   ·unfold Ck.take;rw [fc h1]
  rw [e1]
  exact ht.at_
theorem Zg(ws:List (Nat×List Value))(i:Int):qH ws i=(ws.map Prod.fst).findIdx? (fun n:Nat=>decide ((n:Int)=i)):=by
 unfold qH
 rw [List.findIdx?_map]
 rfl
theorem Zh(C:Ck)(D:Dk)(i:Nat)(b:List Value)(j:Int):(C.put i b).look D j=if j=i then b else C.look D j:=by
 cases hx:qH C.ws i with
 |none=>
  rw [xX b hx]
  unfold Ck.look
  have h1:qH (C.ws++[(i,b)]) j=(qH C.ws j).or (if (i:Int)=j then some C.ws.length else none):=by
   unfold qH
   rw [List.findIdx?_append]
   congr 1
   by_cases hij:(i:Int)=j<;>simp [hij]
  simp only [h1]
  by_cases hj:j=i
  ·subst hj
   rw [hx,if_pos rfl,if_pos rfl]
   simp
  ·rw [if_neg hj,if_neg (fun h=>hj h.symm),Option.or_none]
   cases hy:qH C.ws j with
   |none=>rfl
   |some k=>
    obtain⟨hk,_⟩:=yR (D:=D) hy
    simp only
    rw [List.getD_eq_getElem?_getD,List.getElem?_append_left hk,←List.getD_eq_getElem?_getD]
 |some k=>
  obtain⟨hk,_,hki⟩:=yR (D:=D) hx
  obtain⟨_,e⟩:=xE b hx
  rw [e]
  unfold Ck.look
  have h1:qH (C.ws.set k (C.ws[k].1,b)) j=qH C.ws j:=by
   rw [Zg,Zg,List.map_set]
   congr 1
   have:C.ws[k].1=(C.ws.map Prod.fst)[k]'(by simpa using hk):=by simp
   rw [this,List.set_getElem_self]
  simp only [h1]
  by_cases hj:j=i
  ·subst hj
   rw [hx,if_pos rfl]
   simp [hk]
  ·rw [if_neg hj]
   cases hy:qH C.ws j with
   |none=>rfl
   |some k'=>
    obtain⟨hk',_,hkj⟩:=yR (D:=D) hy
    have hne:k≠k':=fun e0=>hj (by subst e0;omega)
    simp only
    rw [List.getD_eq_getElem?_getD,List.getElem?_set_ne hne,←List.getD_eq_getElem?_getD]
theorem zW(C:Ck)(D:Dk)(i:Nat)(b:List Value)(j:Int)(h:j≠i):(C.put i b).look D j=C.look D j:=by rw [Zh,if_neg h]
theorem qg(C:Ck)(D:Dk)(i:Nat)(b:List Value):(C.put i b).look D i=b:=by rw [Zh,if_pos rfl]
theorem qn.put{C:Ck}{D:Dk}{m:List UInt8}(h:qn (C.look D 2) m)(i:Nat)(b:List Value)(hi:i≠2):qn ((C.put i b).look D 2) m:=by rw [zW _ _ _ _ _ (by omega)];exact h
theorem qn.take{C:Ck}{D:Dk}{m:List UInt8}(h:qn (C.look D 2) m)(N:Nat):qn ((C.take N m).2.1.look D 2) (C.take N m).2.2:=by
 unfold Ck.take
 split
 ·exact⟨by rw [Za];exact h.len,.inl (qg C D 2 _)⟩
 ·exact h
theorem KA(C:Ck)(N:Nat)(m:List UInt8):(C.take N m).1=0∨(21≤(C.take N m).1∧(C.take N m).1<N):=by
 unfold Ck.take
 split
 ·next i h=>right;have:=(Zf h).1;simp only;omega
 ·exact .inl rfl
theorem vD(C:Ck)(N:Nat)(m:List UInt8):(C.take N m).2.1.ws.length≤C.ws.length+1:=by
 unfold Ck.take
 split
 ·exact qq _ _ _
 ·simp
theorem zI(C:Ck)(D:Dk)(n:Int)(j:Int):C.look {D with reads:=n} j=C.look D j:=by
 unfold Ck.look
 split<;>rfl
end prog
end Go.Proofs.YtcoengihaobddaaGreatDoor

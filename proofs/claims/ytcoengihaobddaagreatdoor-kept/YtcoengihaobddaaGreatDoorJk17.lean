/- Part 17 of 34 of a proof: Tree7, Chg1, Chg2, Chg3, Chg4, Tree8, Map1 -/
import Derived.Test.YtcoengihaobddaaGreatDoorJk16
import Derived.Lib.BufferWrite
set_option maxHeartbeats 8000000
set_option linter.unusedVariables false
set_option linter.unusedSimpArgs false
set_option maxRecDepth 8000
namespace Go.Proofs.YtcoengihaobddaaGreatDoor
namespace prog
open Go.ChangeShapes Go.WideShapes Go.ChangeAt Go.RowKit disk ref
open keys (ze zd zr zn)
def V1(args:Array Value):Sem Value:=Builtin.copy_ #[35, 9] 3 args
theorem K4(args:Array Value):Builtin.copy_ #[35, 9] 3 args=V1 args:=rfl
theorem YB:(Tryz.prog.info? 5).map (·.size)=some 1:=by kernel_rfl
theorem YC(w:World)(b:Nat)(t:TypeId)(l:List UInt8)(h:yl w b t l)(o cap:Nat)(ho:o+8≤l.length)(key:ByteArray)(hk:key.size≤8):
 ∃w',(V1 #[.slice (some ⟨b,o,none⟩) 8 cap,.string key]).run Tryz.prog w=.ok (goInt key.size) w'∧yl w' b t (qw l o key.data.toList)∧Kept (fun i=>i=b) w w':=by
 have hr:=Lib.run_copy_row_string (P:=Tryz.prog) w 35 9 3 5 b o 8 cap key (l.map qc).toArray t Tryz.underlying35 YB h.at_ hk (by simp;omega)
 refine⟨_,hr,⟨?_⟩,⟨rfl,rfl,rfl,by simp,fun k _ hk=>setRow_other w b k _ (fun e=>hk (by rw [e]))⟩⟩
 rw [setRow_heap w b _ _ t _ h.at_]
 congr 2
 have hs:key.data.toList.length=key.size:=by simp
 unfold qw Lib.byteCells
 rw [hs]
 simp [qc,List.map_take,List.map_drop]
theorem Jy(l:List UInt8)(o:Nat)(key:ByteArray)(hk:key.data.toList.length≤8)(hz:(l.drop o).take 8=List.replicate 8 0)(ho:o+8≤l.length):qw l o key.data.toList=qw l o (keyBytes key):=by
 have e1:l.drop (o+key.data.toList.length)=List.replicate (8-key.data.toList.length) 0++l.drop (o+8):=by
  have h1:l.drop o=List.replicate 8 0++l.drop (o+8):=by rw [←List.drop_drop,←hz,List.take_append_drop]
  rw [←List.drop_drop,h1,List.drop_append_of_le_length (by simpa using hk),List.drop_replicate]
 unfold qw
 rw [e1,yD _ hk,keyBytes]
 simp
theorem dw(l:List UInt8)(o:Nat)(e:En)(he:e.Ok)(hz:(l.drop o).take 8=List.replicate 8 0)(ho:o+18≤l.length):
 qw (qw (qw l o e.pl.key.data.toList) (o+8) (bytesOf 8 e.pl.num.toNat)) (o+16) (bytesOf 2 e.at_)=qw l o (zZ e):=by
 have h1:=yD _ he.key
 have h2:=zP 8 e.pl.num.toNat
 have h3:=zP 2 e.at_
 have a1:=v9 l o (keyBytes e.pl.key) (bytesOf 8 e.pl.num.toNat) (by omega)
 have a2:=v9 l o (keyBytes e.pl.key++bytesOf 8 e.pl.num.toNat) (bytesOf 2 e.at_) (by rw [List.length_append];omega)
 rw [h1] at a1
 rw [List.length_append,h1,h2] at a2
 rw [Jy l o e.pl.key he.key hz (by omega),a1,show o+16=o+(8+8) from by omega,a2]
 rfl
theorem Xj(l:List UInt8)(o:Nat)(e:En)(he:e.Ok)(ho:o+20≤l.length):qw (qw l o (zZ e)) (o+18) (bytesOf 2 (qB e))=qw l o (jg e):=by
 have h1:=yP he
 have h2:=zP 2 (qB e)
 have a1:=v9 l o (zZ e) (bytesOf 2 (qB e)) (by omega)
 rw [h1] at a1
 exact a1
section
attribute [local go_sem ↓] K4
theorem vx(w:World)(b:Nat)(t:TypeId)(l:List UInt8)(h:yl w b t l)(o cap:Nat)(ho:o+18≤l.length)(hcap:18≤cap)(e:En)(he:e.Ok)(hz:(l.drop o).take 8=List.replicate 8 0):
 Calls Tryz.prog 193 #[.int .u8 4,.slice (some ⟨b,o,none⟩) 18 cap,.agg #[.string e.pl.key,.int .i64 e.pl.num,.bool e.mark,.int .i64 (e.size:Int),.int .i64 (e.at_:Int)]] w fun r w'=>r=.returned (.tuple #[])∧yl w' b t (qw l o (zZ e))∧Kept (fun i=>i=b) w w':=by
 obtain⟨m,hm⟩:∃m:Nat,e.pl.num=m:=⟨e.pl.num.toNat,by have:=he.num0;omega⟩
 have HOV:Hid _:=dw l o e he hz ho
 have hmt:e.pl.num.toNat=m:=by omega
 rw [hmt] at HOV
 have hm1:m<9223372036854775808:=by have:=he.num1;omega
 have hat:=he.at_
 have hk8:e.pl.key.size≤8:=by have:=he.key;simpa using this
 have hbl:=h.lt
 have HBX:Hid ((w.alloc (.cells #[.string e.pl.key,.int .i64 (m:Int),.bool e.mark,.int .i64 (e.size:Int),.int .i64 (e.at_:Int)] 109)).heap[w.heap.size]? =some (.cells #[.string e.pl.key,.int .i64 (m:Int),.bool e.mark,.int .i64 (e.size:Int),.int .i64 (e.at_:Int)] 109 (0,0))):=heap_alloc_new w _
 have HK0:Hid (Kept (fun _=>False) w (w.alloc (.cells #[.string e.pl.key,.int .i64 (m:Int),.bool e.mark,.int .i64 (e.size:Int),.int .i64 (e.at_:Int)] 109))):=Kept.alloc _ _ _
 have HH:Hid _:=h
 rw [hm]
 have hc8:(8:Int)≤(cap:Int):=by omega
 have hn8:¬cap=8:=by omega
 have hn16:¬cap=16:=by omega
 have hc16:(16:Int)≤(cap:Int):=by omega
 have hc18:(18:Int)≤(cap:Int):=by omega
 have HL1:Hid ((qw l o e.pl.key.data.toList).length=l.length):=xA _ _ _ (by have:=he.key;omega)
 clear h hz he
 go_enter Tryz.func193,Tryz.ntmps193
 go_wp2
 have hs0:(w.alloc (.cells #[.string e.pl.key,.int .i64 (m:Int),.bool e.mark,.int .i64 (e.size:Int),.int .i64 (e.at_:Int)] 109)).heap.size=w.heap.size+1:=by simp
 have HB0:Hid (yl (w.alloc (.cells #[.string e.pl.key,.int .i64 (m:Int),.bool e.mark,.int .i64 (e.size:Int),.int .i64 (e.at_:Int)] 109)) b t l):=HH.out.kept HK0.out (fun hf=>hf)
 generalize (w.alloc (.cells #[.string e.pl.key,.int .i64 (m:Int),.bool e.mark,.int .i64 (e.size:Int),.int .i64 (e.at_:Int)] 109))=W at*
 have hx0:W.cell? ⟨w.heap.size,0,none⟩=some (.string e.pl.key):=cR HBX.out rfl
 obtain⟨w1,hrun,hb1,hk1⟩:=YC W.drew b t l (HB0.out.kept (Kept.drew (fun _=>False) W) (fun hf=>hf)) o cap (by omega) e.pl.key hk8
 have HB1:Hid _:=hb1
 have HK1:Hid (Kept (fun i=>i=b) W.drew w1):=hk1
 have hbx1:w1.heap[w.heap.size]? =_:=(hk1.block w.heap.size (by show w.heap.size<W.heap.size;omega) (by omega)).trans HBX.out
 have HBX1:Hid _:=hbx1
 have hx1:w1.cell? ⟨w.heap.size,1,none⟩=some (.int .i64 (m:Int)):=cR hbx1 rfl
 clear hb1 hk1 hbx1
 have hx10:w1.cell? ⟨w.heap.size,0,none⟩=some (.string e.pl.key):=cR HBX1.out rfl
 go_region_held3 (fun w'=>w'.cell? ⟨w.heap.size,0,none⟩=some (.string e.pl.key)) (go_keep) (fail)
 have hwl1:w.heap.size<w1.heap.size:=(lT HBX1.out)
 go_wp2
 go_region_held3 (fun w'=>w'.cell? ⟨w.heap.size,1,none⟩=some (.int .i64 (m:Int))) (go_keep) ((go_at_call 138;refine(qE _ b t _ (by exact HB1.out.kept (Kept.drew (fun _=>False) w1) (fun hf=>hf)) (o+8) 8 (cap-8) (by rw [HL1.out];omega) (by omega) m hm1).mono ?_;rintro r w2 ⟨rfl,hb2,hk2⟩;have HB2:Hid _:=hb2;have HK2:Hid (Kept (fun i=>i=b) w1.drew w2):=hk2;have hbx2:w2.heap[w.heap.size]? =_:=(hk2.block w.heap.size hwl1 (by omega)).trans HBX1.out;have HBX2:Hid _:=hbx2;have hx2:w2.cell? ⟨w.heap.size,1,none⟩=some (.int .i64 (m:Int)):=(cR hbx2 rfl);clear hb2 hk2 hbx2))
 have hwl2:w.heap.size<w2.heap.size:=(lT HBX2.out)
 have hx24:w2.cell? ⟨w.heap.size,4,none⟩=some (.int .i64 (e.at_:Int)):=cR HBX2.out rfl
 have HL2:Hid ((qw (qw l o e.pl.key.data.toList) (o+8) (bytesOf 8 m)).length=l.length):=(xA _ _ _ (by rw [HL1.out,zP];omega)).trans HL1.out
 go_wp2
 go_region_held3 (fun w'=>w'.cell? ⟨w.heap.size,4,none⟩=some (.int .i64 (e.at_:Int))) (go_keep) ((go_at_call 138;refine(qE _ b t _ (by exact HB2.out.kept (Kept.drew (fun _=>False) w2) (fun hf=>hf)) (o+16) 2 (cap-16) (by rw [HL2.out];omega) (by omega) e.at_ (by omega)).mono ?_;rintro r w3 ⟨rfl,hb3,hk3⟩;have HB3:Hid _:=hb3;have HK3:Hid (Kept (fun i=>i=b) w2.drew w3):=hk3;have hbx3:w3.heap[w.heap.size]? =_:=(hk3.block w.heap.size hwl2 (by omega)).trans HBX2.out;have HBX3:Hid _:=hbx3;have hx34:w3.cell? ⟨w.heap.size,4,none⟩=some (.int .i64 (e.at_:Int)):=(cR hbx3 rfl);clear hb3 hk3 hbx3))
 have hx32:w3.cell? ⟨w.heap.size,2,none⟩=some (.bool e.mark):=cR HBX3.out rfl
 have hx33:w3.cell? ⟨w.heap.size,3,none⟩=some (.int .i64 (e.size:Int)):=cR HBX3.out rfl
 have HFB:Hid (yl w3 b t (qw l o (zZ e))):=by have:=HB3.out;rw [HOV.out] at this;exact this
 have HFK:Hid (Kept (fun i=>i=b) w w3):=(((HK0.out.mono fE).trans (Kept.trans (b:=W.drew) (Kept.drew _ W) HK1.out iL) iL).trans (Kept.trans (b:=w1.drew) (Kept.drew _ w1) HK2.out iL) iL).trans (Kept.trans (b:=w2.drew) (Kept.drew _ w2) HK3.out iL) iL
 go_wp2
 all_goals
  go_end0
  exact⟨rfl,HFB.out,HFK.out⟩
theorem uW(w:World)(b:Nat)(t:TypeId)(l:List UInt8)(h:yl w b t l)(o cap:Nat)(ho:o+20≤l.length)(hcap:20≤cap)(e:En)(he:e.Ok)(hz:(l.drop o).take 8=List.replicate 8 0):
 Calls Tryz.prog 193 #[.int .u8 5,.slice (some ⟨b,o,none⟩) 20 cap,.agg #[.string e.pl.key,.int .i64 e.pl.num,.bool e.mark,.int .i64 (e.size:Int),.int .i64 (e.at_:Int)]] w fun r w'=>r=.returned (.tuple #[])∧yl w' b t (qw l o (jg e))∧Kept (fun i=>i=b) w w':=by
 obtain⟨m,hm⟩:∃m:Nat,e.pl.num=m:=⟨e.pl.num.toNat,by have:=he.num0;omega⟩
 have HLF:Hid _:=Xj l o e he ho
 have HBL:Hid ((zZ e).length=18):=yP he
 have hsz:=he.size
 have HOV:Hid _:=dw l o e he hz (by omega)
 have hmt:e.pl.num.toNat=m:=by omega
 rw [hmt] at HOV
 have hm1:m<9223372036854775808:=by have:=he.num1;omega
 have hat:=he.at_
 have hk8:e.pl.key.size≤8:=by have:=he.key;simpa using this
 have hbl:=h.lt
 have HBX:Hid ((w.alloc (.cells #[.string e.pl.key,.int .i64 (m:Int),.bool e.mark,.int .i64 (e.size:Int),.int .i64 (e.at_:Int)] 109)).heap[w.heap.size]? =some (.cells #[.string e.pl.key,.int .i64 (m:Int),.bool e.mark,.int .i64 (e.size:Int),.int .i64 (e.at_:Int)] 109 (0,0))):=heap_alloc_new w _
 have HK0:Hid (Kept (fun _=>False) w (w.alloc (.cells #[.string e.pl.key,.int .i64 (m:Int),.bool e.mark,.int .i64 (e.size:Int),.int .i64 (e.at_:Int)] 109))):=Kept.alloc _ _ _
 have HH:Hid _:=h
 rw [hm]
 have hc8:(8:Int)≤(cap:Int):=by omega
 have hn8:¬cap=8:=by omega
 have hn16:¬cap=16:=by omega
 have hn18:¬cap=18:=by omega
 have hc16:(16:Int)≤(cap:Int):=by omega
 have hc18:(18:Int)≤(cap:Int):=by omega
 have HL1:Hid ((qw l o e.pl.key.data.toList).length=l.length):=xA _ _ _ (by have:=he.key;omega)
 clear h hz he
 go_enter Tryz.func193,Tryz.ntmps193
 go_wp2
 have hs0:(w.alloc (.cells #[.string e.pl.key,.int .i64 (m:Int),.bool e.mark,.int .i64 (e.size:Int),.int .i64 (e.at_:Int)] 109)).heap.size=w.heap.size+1:=by simp
 have HB0:Hid (yl (w.alloc (.cells #[.string e.pl.key,.int .i64 (m:Int),.bool e.mark,.int .i64 (e.size:Int),.int .i64 (e.at_:Int)] 109)) b t l):=HH.out.kept HK0.out (fun hf=>hf)
 generalize (w.alloc (.cells #[.string e.pl.key,.int .i64 (m:Int),.bool e.mark,.int .i64 (e.size:Int),.int .i64 (e.at_:Int)] 109))=W at*
 have hx0:W.cell? ⟨w.heap.size,0,none⟩=some (.string e.pl.key):=cR HBX.out rfl
 obtain⟨w1,hrun,hb1,hk1⟩:=YC W.drew b t l (HB0.out.kept (Kept.drew (fun _=>False) W) (fun hf=>hf)) o cap (by omega) e.pl.key hk8
 have HB1:Hid _:=hb1
 have HK1:Hid (Kept (fun i=>i=b) W.drew w1):=hk1
 have hbx1:w1.heap[w.heap.size]? =_:=(hk1.block w.heap.size (by show w.heap.size<W.heap.size;omega) (by omega)).trans HBX.out
 have HBX1:Hid _:=hbx1
 have hx1:w1.cell? ⟨w.heap.size,1,none⟩=some (.int .i64 (m:Int)):=cR hbx1 rfl
 clear hb1 hk1 hbx1
 have hx10:w1.cell? ⟨w.heap.size,0,none⟩=some (.string e.pl.key):=cR HBX1.out rfl
 go_region_held3 (fun w'=>w'.cell? ⟨w.heap.size,0,none⟩=some (.string e.pl.key)) (go_keep) (fail)
 have hwl1:w.heap.size<w1.heap.size:=(lT HBX1.out)
 go_wp2
 go_region_held3 (fun w'=>w'.cell? ⟨w.heap.size,1,none⟩=some (.int .i64 (m:Int))) (go_keep) ((go_at_call 138;refine(qE _ b t _ (by exact HB1.out.kept (Kept.drew (fun _=>False) w1) (fun hf=>hf)) (o+8) 8 (cap-8) (by rw [HL1.out];omega) (by omega) m hm1).mono ?_;rintro r w2 ⟨rfl,hb2,hk2⟩;have HB2:Hid _:=hb2;have HK2:Hid (Kept (fun i=>i=b) w1.drew w2):=hk2;have hbx2:w2.heap[w.heap.size]? =_:=(hk2.block w.heap.size hwl1 (by omega)).trans HBX1.out;have HBX2:Hid _:=hbx2;have hx2:w2.cell? ⟨w.heap.size,1,none⟩=some (.int .i64 (m:Int)):=(cR hbx2 rfl);clear hb2 hk2 hbx2))
 have hwl2:w.heap.size<w2.heap.size:=(lT HBX2.out)
 have hx24:w2.cell? ⟨w.heap.size,4,none⟩=some (.int .i64 (e.at_:Int)):=cR HBX2.out rfl
 have HL2:Hid ((qw (qw l o e.pl.key.data.toList) (o+8) (bytesOf 8 m)).length=l.length):=(xA _ _ _ (by rw [HL1.out,zP];omega)).trans HL1.out
 go_wp2
 go_region_held3 (fun w'=>w'.cell? ⟨w.heap.size,4,none⟩=some (.int .i64 (e.at_:Int))) (go_keep) ((go_at_call 138;refine(qE _ b t _ (by exact HB2.out.kept (Kept.drew (fun _=>False) w2) (fun hf=>hf)) (o+16) 2 (cap-16) (by rw [HL2.out];omega) (by omega) e.at_ (by omega)).mono ?_;rintro r w3 ⟨rfl,hb3,hk3⟩;have HB3:Hid _:=hb3;have HK3:Hid (Kept (fun i=>i=b) w2.drew w3):=hk3;have hbx3:w3.heap[w.heap.size]? =_:=(hk3.block w.heap.size hwl2 (by omega)).trans HBX2.out;have HBX3:Hid _:=hbx3;have hx34:w3.cell? ⟨w.heap.size,4,none⟩=some (.int .i64 (e.at_:Int)):=(cR hbx3 rfl);clear hb3 hk3 hbx3))
 have hx32:w3.cell? ⟨w.heap.size,2,none⟩=some (.bool e.mark):=cR HBX3.out rfl
 have hx33:w3.cell? ⟨w.heap.size,3,none⟩=some (.int .i64 (e.size:Int)):=cR HBX3.out rfl
 have HFB:Hid (yl w3 b t (qw l o (zZ e))):=by have:=HB3.out;rw [HOV.out] at this;exact this
 have HFK:Hid (Kept (fun i=>i=b) w w3):=(((HK0.out.mono fE).trans (Kept.trans (b:=W.drew) (Kept.drew _ W) HK1.out iL) iL).trans (Kept.trans (b:=w1.drew) (Kept.drew _ w1) HK2.out iL) iL).trans (Kept.trans (b:=w2.drew) (Kept.drew _ w2) HK3.out iL) iL
 have HL3:Hid ((qw l o (zZ e)).length=l.length):=xA _ _ _ (by rw [HBL.out];omega)
 cases hmk:e.mark with
 |false=>
  rw [hmk] at hx32
  have HSZ:Hid (qB e=e.size):=by show qB e=_;unfold qB;rw [hmk];rfl
  go_wp2_with (go_at_call 138;refine(qE _ b t _ HFB.out (o+18) 2 (cap-18) (by rw [HL3.out];omega) (by omega) e.size (by omega)).mono ?_;rintro r w4 ⟨rfl,hb4,hk4⟩;have HB4:Hid _:=hb4;have HK4:Hid _:=hk4;clear hb4 hk4)
  go_end0
  refine⟨rfl,?_,HFK.out.trans HK4.out iL⟩
  have h4:=HB4.out
  have hlf:=HLF.out
  rw [HSZ.out] at hlf
  rw [hlf] at h4
  exact h4
 |true=>
  rw [hmk] at hx32
  have HSZ:Hid (qB e=65535):=by show qB e=_;unfold qB;rw [hmk];rfl
  go_wp2_with (go_at_call 138;refine(qE _ b t _ HFB.out (o+18) 2 (cap-18) (by rw [HL3.out];omega) (by omega) 65535 (by omega)).mono ?_;rintro r w4 ⟨rfl,hb4,hk4⟩;have HB4:Hid _:=hb4;have HK4:Hid _:=hk4;clear hb4 hk4)
  go_end0
  refine⟨rfl,?_,HFK.out.trans HK4.out iL⟩
  have h4:=HB4.out
  have hlf:=HLF.out
  rw [HSZ.out] at hlf
  rw [hlf] at h4
  exact h4
end
structure Ck where
 ws:List (Nat×List Value)
 full:Bool
structure qm (w:World) (bc bd:Nat) (T:Nat→Prop) (C:Ck) (a:Option Addr) (cap:Nat):Prop where
 ok:∀p∈C.ws,zy p.2
 head:w.heap[bc]? =some (.cells #[.pointer (some ⟨bd,0,none⟩),.slice a C.ws.length cap,.bool C.full] 197 (0,0))
 row:w.ownsRow 0 160 129 (.slice a C.ws.length cap) C.ws.length (C.ws.map zM).flatten
 own:∀k,T k↔(k=bc∨(Value.slice a C.ws.length cap).ownBlock=some k)
 ap:(Value.slice a C.ws.length cap).ownBlock≠some bc
 few:C.ws.length≤1000
theorem qm.bcT{w:World}{bc bd:Nat}{T:Nat→Prop}{C:Ck}{a:Option Addr}{cap:Nat}(h:qm w bc bd T C a cap):T bc:=(h.own bc).2 (.inl rfl)
theorem qm.lt{w:World}{bc bd:Nat}{T:Nat→Prop}{C:Ck}{a:Option Addr}{cap:Nat}(h:qm w bc bd T C a cap):∀k,T k→k<w.heap.size:=fun k hk=>by
 rcases (h.own k).1 hk with rfl|h1
 ·exact(lT h.head)
 ·exact(h.row.lt k h1).2
theorem qm.kept{w w':World}{bc bd:Nat}{T X:Nat→Prop}{C:Ck}{a:Option Addr}{cap:Nat}(h:qm w bc bd T C a cap)(k:Kept X w w')(hn:∀i,T i→¬X i):qm w' bc bd T C a cap:=by
 refine⟨h.ok,?_,k.owns h.row (fun i hi=>hn i ((h.own i).2 (.inr hi))),h.own,h.ap,h.few⟩
 rw [k.block bc (h.lt bc h.bcT) (hn bc h.bcT)];exact h.head
theorem qm.c0{w:World}{bc bd:Nat}{T:Nat→Prop}{C:Ck}{a:Option Addr}{cap:Nat}(h:qm w bc bd T C a cap):w.cell? ⟨bc,0,none⟩=some (.pointer (some ⟨bd,0,none⟩)):=cR h.head rfl
theorem qm.c1{w:World}{bc bd:Nat}{T:Nat→Prop}{C:Ck}{a:Option Addr}{cap:Nat}(h:qm w bc bd T C a cap):w.cell? ⟨bc,1,none⟩=some (.slice a C.ws.length cap):=cR h.head rfl
theorem qm.c2{w:World}{bc bd:Nat}{T:Nat→Prop}{C:Ck}{a:Option Addr}{cap:Nat}(h:qm w bc bd T C a cap):w.cell? ⟨bc,2,none⟩=some (.bool C.full):=cR h.head rfl
theorem qm.fz{w:World}{bc bd:Nat}{T:Nat→Prop}{C:Ck}{a:Option Addr}{cap:Nat}(h:qm w bc bd T C a cap)(i:Nat):w.frozen? ⟨bc,i,none⟩=false:=frozen_of_row w bc i _ _ h.head
theorem qm.rowAt{w:World}{bc bd:Nat}{T:Nat→Prop}{C:Ck}{a:Option Addr}{cap:Nat}(h:qm w bc bd T C a cap)(hn:0<C.ws.length):∃g,a=some ⟨g,0,none⟩:=by
 rcases h.row.2 with⟨_,h1⟩|⟨g,cap',cur,hv,_⟩
 ·omega
 ·cases hv;exact⟨g,rfl⟩
theorem qm.wlen{w:World}{bc bd:Nat}{T:Nat→Prop}{C:Ck}{a:Option Addr}{cap:Nat}(h:qm w bc bd T C a cap):∀b∈C.ws.map zM,b.length=129:=fun b hb=>by
 obtain⟨p,hp,rfl⟩:=List.mem_map.1 hb
 simp [zM,(h.ok p hp).1]
theorem qm.range{w:World}{bc bd:Nat}{T:Nat→Prop}{C:Ck}{g cap:Nat}(h:qm w bc bd T C (some ⟨g,0,none⟩) cap)(i:Nat)(hi:i<C.ws.length):w.rangeAt g (i*129) (.int .i64 (C.ws[i].1:Int)::C.ws[i].2):=by
 have hp:=h.row
 rw [show C.ws.length=(C.ws.map zM).length from by simp] at hp
 have:=qI hp h.wlen i (by simpa using hi)
 simpa [zM] using this
def Chg(w:World)(bc bd:Nat)(T:Nat→Prop)(C:Ck):Prop:=∃a cap,qm w bc bd T C a cap
theorem Chg.kept{w w':World}{bc bd:Nat}{T X:Nat→Prop}{C:Ck}(h:Chg w bc bd T C)(k:Kept X w w')(hn:∀i,T i→¬X i):Chg w' bc bd T C:=by
 obtain⟨a,cap,h⟩:=h;exact⟨a,cap,h.kept k hn⟩
theorem Chg.lt{w:World}{bc bd:Nat}{T:Nat→Prop}{C:Ck}(h:Chg w bc bd T C):∀k,T k→k<w.heap.size:=by
 obtain⟨a,cap,h⟩:=h;exact h.lt
def qH(ws:List (Nat×List Value))(i:Int):Option Nat:=ws.findIdx? fun p=>decide ((p.1:Int)=i)
def KU:Option Nat→Int
 |some k=>k
 |none=> -1
theorem Tryz.infoCw:(Tryz.prog.info? 160).map (fun i=>(i.zero,i.size,i.bytes))=some (some (.agg qU.toArray),129,136):=by kernel_rfl
theorem dx{ws:List (Nat×List Value)}{i:Int}{k:Nat}(hk:k<ws.length)(h0:∀j (hj:j<ws.length),j<k→¬(ws[j].1:Int)=i)(h1:(ws[k].1:Int)=i):qH ws i=some k:=by
 unfold qH
 rw [List.findIdx?_eq_some_iff_getElem]
 exact⟨hk,by simpa using h1,fun j hj=>by simpa using h0 j (by omega) hj⟩
theorem cY{ws:List (Nat×List Value)}{i:Int}(h0:∀j (hj:j<ws.length),¬(ws[j].1:Int)=i):qH ws i=none:=by
 unfold qH
 rw [List.findIdx?_eq_none_iff]
 intro p hp
 obtain⟨j,hj,rfl⟩:=List.getElem_of_mem hp
 simpa using h0 j hj
theorem jG(w:World)(bc bd:Nat)(T:Nat→Prop)(C:Ck)(a:Option Addr)(cap:Nat)(h:qm w bc bd T C a cap)(i:Int):
 Calls Tryz.prog 172 #[.pointer (some ⟨bc,0,none⟩),.int .i64 i] w fun e w'=>e=.returned (.int .i64 (KU (qH C.ws i)))∧Kept (fun _=>False) w w':=by
 obtain⟨Zw,hZw,hzw⟩:∃Zw:List Value,Zw=qU∧∀w,(zeroValue 160).run Tryz.prog w=.ok (.agg Zw.toArray) w:=⟨qU,rfl,zV Tryz.infoCw⟩
 have HZw:Hid (Zw.length=129):=by rw [hZw];exact congrArg (· +1) zF.1
 clear hZw
 have HIw:Hid ((Tryz.prog.info? 160).map (·.size)=some 129):=zS Tryz.infoCw
 have hc1:=h.c1
 have hfew:=h.few
 have HH:Hid _:=h
 clear h
 go_enter Tryz.func172,Tryz.ntmps172
 go_wp2
 go_loopw [12] (fun t wr=>∃k:Nat,k≤C.ws.length∧t=.int .i64 k∧(∀j (hj:j<C.ws.length),j<k→¬(C.ws[j].1:Int)=i)∧Kept (fun _=>False) w wr) (fun t _=>C.ws.length-(intOf t).toNat)
 case atStart=>exact⟨0,Nat.zero_le _,rfl,fun _ _ h=>by omega,Kept.refl _ _⟩
 case round=>
  obtain⟨k,hk,rfl,h0,hkept⟩:=hrel
  have H0:Hid _:=h0
  have HK:Hid _:=hkept
  clear h0 hkept
  by_cases hlt:k<C.ws.length
  ·obtain⟨g,rfl⟩:=HH.out.rowAt (by omega)
   have HP:Hid (wr.rangeAt g (k*129) (.int .i64 (C.ws[k].1:Int)::C.ws[k].2)):=(HH.out.kept HK.out nF).range k hlt
   have HPO:Hid (zy C.ws[k].2):=HH.out.ok _ (List.getElem_mem hlt)
   have HX:Hid (∀j (hj:j<C.ws.length),j<k+1→¬(C.ws[k].1:Int)=i→¬(C.ws[j].1:Int)=i):=fun j hj hjk hne=>by
    by_cases e:j=k
    ·subst e;exact hne
    ·exact H0.out j hj (by omega)
   have HE:Hid ((C.ws[k].1:Int)=i→qH C.ws i=some k):=fun he=>dx hlt H0.out he
   generalize hq:C.ws[k]=q at*
   obtain⟨qi,qb⟩:=q
   clear hq
   simp only at HX HE
   have HKA:Hid (Kept (fun _=>False) w (wr.alloc (.cells (.int .i64 (qi:Int)::qb).toArray 160))):=HK.out.trans (Kept.alloc _ _ _) iL
   by_cases hqi:(qi:Int)=i
   ·have hq2:((qi:Int)==i)=true:=by simp [hqi]
    have HQ:Hid ((qi:Int)=i):=hqi
    clear hqi
    go_wp2_with (first
     |(show wpList _ _ _ ({dst:=some 16,op:=.load _ _,type:=_,pos:=_,after:=_,guard:=_}::_) _ _;refine wpList_load_mid rfl 160 (.tmp 15) rfl _ _ rfl (.int .i64 (qi:Int)::qb) _ HP.out Tryz.underlying160 rfl (by rw [List.length_cons,HPO.out.1];exact HIw.out) ?_)
     |(show wpList _ _ _ ({dst:=none,op:=.store _ _ _,type:=_,pos:=_,after:=_,guard:=_}::_) _ _;refine zg rfl 160 (.tmp 6) (.tmp 16) rfl _ _ (.int .i64 (qi:Int)::qb) rfl rfl rfl (by rw [List.length_cons,HPO.out.1];exact HIw.out) (by rw [List.length_cons,HPO.out.1];simpa using HZw.out) (List.forall_mem_cons.2 ⟨rfl,HPO.out.2⟩) ?_))
    go_ret
    exact⟨by rw [HE.out HQ.out];rfl,HKA.out⟩
   ·have hq2:((qi:Int)==i)=false:=by simpa using hqi
    have HQ:Hid (¬(qi:Int)=i):=hqi
    clear hqi
    go_wp2_with (first
     |(show wpList _ _ _ ({dst:=some 16,op:=.load _ _,type:=_,pos:=_,after:=_,guard:=_}::_) _ _;refine wpList_load_mid rfl 160 (.tmp 15) rfl _ _ rfl (.int .i64 (qi:Int)::qb) _ HP.out Tryz.underlying160 rfl (by rw [List.length_cons,HPO.out.1];exact HIw.out) ?_)
     |(show wpList _ _ _ ({dst:=none,op:=.store _ _ _,type:=_,pos:=_,after:=_,guard:=_}::_) _ _;refine zg rfl 160 (.tmp 6) (.tmp 16) rfl _ _ (.int .i64 (qi:Int)::qb) rfl rfl rfl (by rw [List.length_cons,HPO.out.1];exact HIw.out) (by rw [List.length_cons,HPO.out.1];simpa using HZw.out) (List.forall_mem_cons.2 ⟨rfl,HPO.out.2⟩) ?_))
    go_roundw
    case rel=>exact⟨k+1,by omega,by go_num,fun j hj hjk=>HX.out j hj hjk HQ.out,HKA.out⟩
    case measure=>simp [intOf];omega
  ·have HE:Hid (qH C.ws i=none):=cY (fun j hj=>H0.out j hj (by omega))
   go_wp2
   go_ret
   exact⟨by rw [HE.out];rfl,HK.out⟩
theorem gZ(w:World)(bc bd:Nat)(T:Nat→Prop)(C:Ck)(h:Chg w bc bd T C):
 Calls Tryz.prog 139 #[.pointer (some ⟨bc,0,none⟩)] w fun e w'=>e=.returned (.bool (C.full||decide (18<C.ws.length)))∧w'=w:=by
 obtain⟨a,cap,h⟩:=h
 have hc1:=h.c1
 have hc2:=h.c2
 have hfew:=h.few
 clear h
 cases hf:C.full
 ·rw [hf] at hc2
  go_enter Tryz.func139,Tryz.ntmps139
  go_wp2
  go_ret
  exact⟨zd (by simp;omega),rfl⟩
 ·rw [hf] at hc2
  go_enter Tryz.func139,Tryz.ntmps139
  go_wp2
  go_ret
  exact⟨zd (by simp),rfl⟩
theorem dy(w:World)(bd:Nat)(hbd:bd<w.heap.size):
 Calls Tryz.prog 73 #[.pointer (some ⟨bd,0,none⟩)] w fun e w'=>e=.returned (.pointer (some ⟨w.heap.size,0,none⟩))∧Chg w' w.heap.size bd (fun k=>k=w.heap.size) ⟨[],false⟩∧Kept (fun _=>False) w w':=by
 go_enter Tryz.func73,Tryz.ntmps73
 go_wp2
 go_ret
 refine⟨rfl,⟨none,0,fun p hp=>(nomatch hp),?_,World.ownsRow_nil _ 0 160 129,fun k=>by simp [Value.ownBlock],by simp [Value.ownBlock],by simp⟩,Kept.alloc _ _ _⟩
 exact heap_alloc_new w _
structure Cw (w:World) (bc bd:Nat) (S T:Nat→Prop) (D:Dk) (C:Ck):Prop where
 disk:zh w bd S D
 chg:Chg w bc bd T C
 apart:∀k,S k→¬T k
theorem Cw.kept{w w':World}{bc bd:Nat}{S T X:Nat→Prop}{D:Dk}{C:Ck}(h:Cw w bc bd S T D C)(k:Kept X w w')(hS:∀i,S i→¬X i)(hT:∀i,T i→¬X i):Cw w' bc bd S T D C:=⟨h.disk.kept k hS,h.chg.kept k hT,h.apart⟩
theorem Cw.kept0{w w':World}{bc bd:Nat}{S T:Nat→Prop}{D:Dk}{C:Ck}(h:Cw w bc bd S T D C)(k:Kept (fun _=>False) w w'):Cw w' bc bd S T D C:=h.kept k nF nF
def Ck.look(C:Ck)(D:Dk)(i:Int):List Value:=match qH C.ws i with
 |some k=>(C.ws.getD k (0,[])).2
 |none=>D.look i
theorem yR{C:Ck}{D:Dk}{i:Int}{k:Nat}(h:qH C.ws i=some k):∃hk:k<C.ws.length,C.look D i=C.ws[k].2∧(C.ws[k].1:Int)=i:=by
 have h':=h
 unfold qH at h'
 rw [List.findIdx?_eq_some_iff_getElem] at h'
 obtain⟨hk,h1,_⟩:=h'
 refine⟨hk,?_,by simpa using h1⟩
 unfold Ck.look
 rw [h]
 simp [hk]
theorem jk{C:Ck}{D:Dk}{i:Int}(h:qH C.ws i=none):C.look D i=D.look i:=by unfold Ck.look;rw [h]
theorem Dk.Ok.look{D:Dk}(h:D.Ok)(i:Int):zy (D.look i):=by
 unfold Dk.look
 split
 next hi=>
  refine dl ?_ (fun p hp=>(h.ps p hp).2)
  rw [List.getD_eq_getElem?_getD,List.getElem?_eq_getElem (by omega),Option.getD_some]
  exact h.bs _ (List.getElem_mem _)
 next=>exact zF
theorem jl(w:World)(bc bd:Nat)(S T:Nat→Prop)(D:Dk)(C:Ck)(h:Cw w bc bd S T D C)(i:Int)(hi:zD i)(hr0:0≤D.reads)(hr1:D.reads≤4611686018427387904):
 Calls Tryz.prog 192 #[.pointer (some ⟨bc,0,none⟩),.int .i64 i] w fun e w'=>e=.returned (.agg (C.look D i).toArray)∧(∃n:Int,0≤n∧n≤1∧Cw w' bc bd S T {D with reads:=D.reads+n} C)∧Kept (fun k=>k=bd) w w':=by
 obtain⟨Zb,hZb,hz⟩:∃Zb:List Value,Zb=zT∧∀w,(zeroValue 131).run Tryz.prog w=.ok (.agg Zb.toArray) w:=⟨zT,rfl,zV Tryz.infoBlock⟩
 have HZb:Hid (zy Zb):=by rw [hZb];exact zF
 clear hZb
 have HI:Hid ((Tryz.prog.info? 131).map (·.size)=some 128):=zS Tryz.infoBlock
 have HW:Hid _:=h
 obtain⟨a,cap,hch⟩:=h.chg
 have HC:Hid _:=hch
 have hbT:=hch.bcT
 have hbd:=h.disk.lt bd h.disk.bdS
 have hbc:=hch.lt bc hbT
 have hne:bd≠bc:=fun e=>h.apart bd h.disk.bdS (by rw [e];exact hbT)
 clear h hch
 have HK1:Hid (Kept (fun _=>False) w (w.alloc (.cells Zb.toArray 131))):=Kept.alloc _ _ _
 cases hx:qH C.ws i with
 |some k=>
  obtain⟨hk,hl,hki⟩:=yR (D:=D) hx
  have HL:Hid _:=hl
  have HX:Hid _:=hx
  obtain⟨g,rfl⟩:=HC.out.rowAt (by omega)
  have HOK:Hid (zy C.ws[k].2):=HC.out.ok _ (List.getElem_mem hk)
  clear hl hx
  have hk0:¬(k:Int)<0:=by omega
  have hkk:(k:Int)<(C.ws.length:Int):=by omega
  have HR:Hid (∀w1,Kept (fun _=>False) w w1→w1.rangeAt g (k*129+1) C.ws[k].2):=fun w1 hk1 j v hv=>by
   have:=(HC.out.kept hk1 nF).range k hk (j+1) v (by simpa using hv)
   rw [Nat.add_assoc,Nat.add_comm 1 j];exact this
  generalize C.ws[k].2=qb at*
  go_enter Tryz.func192,Tryz.ntmps192
  go_wp2_with (first
   |(go_at_call 172;refine(jG _ bc bd T C _ cap (HC.out.kept HK1.out nF) i).mono ?_;rintro e w1 ⟨rfl,hk1⟩;rw [HX.out];unfold KU;have HK2:Hid _:=hk1;have hc1:=((HC.out.kept HK1.out nF).kept hk1 nF).c1;have HB:Hid (w1.heap[w.heap.size]? =some (.cells Zb.toArray 131 (0,0))):=(hk1.block w.heap.size (by simp) (fun hf=>hf)).trans (heap_alloc_new w _);have HRR:Hid _:=HR.out w1 (HK1.out.trans hk1 iL);clear hk1)
   |(show wpList _ _ _ ({dst:=some 18,op:=.load _ _,type:=_,pos:=_,after:=_,guard:=_}::_) _ _;refine wpList_load_mid rfl 131 (.tmp 17) rfl _ _ rfl qb _ HRR.out Tryz.underlying131 rfl (by rw [HOK.out.1];exact HI.out) ?_)
   |(show wpList _ _ _ ({dst:=none,op:=.store _ _ _,type:=_,pos:=_,after:=_,guard:=_}::_) _ _;refine wpList_store_mid rfl 131 (.tmp 4) (.tmp 18) rfl _ _ _ rfl rfl (by have:=qN HB.out;rw [HZb.out.1] at this;simpa [HOK.out.1] using this) (by rw [List.size_toArray,HOK.out.1];exact HI.out) (all_oneCell_toArray HOK.out.2) ?_))
  have hb:=zY w.heap.size 131 qb 0 w1 _ HB.out (by simp [HZb.out.1,HOK.out.1])
  have hks:=Kept.setCells (S:=fun k=>k=w.heap.size) w.heap.size rfl qb 0 w1
  have hkf:Kept (fun _=>False) w (w1.setCells w.heap.size 0 qb):=(HK1.out.trans HK2.out iL).trans hks (fun j hj=>.inr (by rw [hj];exact Nat.le_refl _))
  have hb2:(w1.setCells w.heap.size 0 qb).heap[w.heap.size]? =some (.cells qb.toArray 131 (0,0)):=by
   rw [hb];congr 3;rw [List.take_zero,List.nil_append,List.drop_of_length_le (by simp [HZb.out.1,HOK.out.1]),List.append_nil]
  refine bodyPost_ret (v:=.agg qb.toArray) (results_cell_row Tryz.results192 _ _ w.heap.size 131 _ (0,0) _ rfl hb2 Tryz.underlying131 rfl (by rw [List.size_toArray,HOK.out.1];exact HI.out)) rfl ⟨by rw [HL.out],⟨0,by omega,by omega,?_⟩,hkf.mono fE⟩
  have:=HW.out.kept0 hkf
  simpa using this
 |none=>
  have HX:Hid _:=hx
  have HL:Hid _:=jk (D:=D) hx
  have HOK:Hid (zy (D.look i)):=Dk.Ok.look HW.out.disk.ok i
  clear hx
  generalize hq:D.look i=qb at*
  have HQ:Hid (D.look i=qb):=hq
  clear hq
  go_enter Tryz.func192,Tryz.ntmps192
  go_wp2_with (first
   |(go_at_call 172;refine(jG _ bc bd T C _ cap (HC.out.kept HK1.out nF) i).mono ?_;rintro e w1 ⟨rfl,hk1⟩;rw [HX.out];unfold KU;have HK2:Hid _:=hk1;have hc0:=((HC.out.kept HK1.out nF).kept hk1 nF).c0;have HB:Hid (w1.heap[w.heap.size]? =some (.cells Zb.toArray 131 (0,0))):=(hk1.block w.heap.size (by simp) (fun hf=>hf)).trans (heap_alloc_new w _);clear hk1)
   |(go_at_call 81;refine(xy _ bd S D ((HW.out.kept0 HK1.out).kept0 HK2.out).disk i hi hr0 hr1).mono ?_;rintro e w2 ⟨rfl,hd2,hk2⟩;rw [HQ.out];have HD2:Hid (zh w2 bd S {D with reads:=D.reads+1 }):=hd2;have HK3:Hid _:=hk2;have HB2:Hid (w2.heap[w.heap.size]? =some (.cells Zb.toArray 131 (0,0))):=(hk2.block w.heap.size (lT HB.out) (by omega)).trans HB.out;clear hd2 hk2)
   |(show wpList _ _ _ ({dst:=none,op:=.store _ _ _,type:=_,pos:=_,after:=_,guard:=_}::_) _ _;refine wpList_store_mid rfl 131 (.tmp 4) (.tmp 24) rfl _ _ _ rfl rfl (by have:=qN HB2.out;rw [HZb.out.1] at this;simpa [HOK.out.1] using this) (by rw [List.size_toArray,HOK.out.1];exact HI.out) (all_oneCell_toArray HOK.out.2) ?_))
  have hb:=zY w.heap.size 131 qb 0 w2 _ HB2.out (by simp [HZb.out.1,HOK.out.1])
  have hks:=Kept.setCells (S:=fun k=>k=w.heap.size) w.heap.size rfl qb 0 w2
  have hk12:Kept (fun k=>k=bd) w w2:=((HK1.out.trans HK2.out iL).mono fE).trans HK3.out iL
  have hkf:Kept (fun k=>k=bd) w (w2.setCells w.heap.size 0 qb):=hk12.trans hks (fun j hj=>.inr (by rw [hj];exact Nat.le_refl _))
  have hb2:(w2.setCells w.heap.size 0 qb).heap[w.heap.size]? =some (.cells qb.toArray 131 (0,0)):=by
   rw [hb];congr 3;rw [List.take_zero,List.nil_append,List.drop_of_length_le (by simp [HZb.out.1,HOK.out.1]),List.append_nil]
  have hS1:∀k,S k→k<w.heap.size:=HW.out.disk.lt
  refine bodyPost_ret (v:=.agg qb.toArray) (results_cell_row Tryz.results192 _ _ w.heap.size 131 _ (0,0) _ rfl hb2 Tryz.underlying131 rfl (by rw [List.size_toArray,HOK.out.1];exact HI.out)) rfl ⟨by rw [HL.out],⟨1,by omega,by omega,⟨HD2.out.kept hks (fun k hk e=>by have:=hS1 k hk;omega),HW.out.chg.kept hkf (fun k hk e=>HW.out.apart bd HW.out.disk.bdS (by rw [←e];exact hk)),HW.out.apart⟩⟩,hkf⟩
def Ck.put(C:Ck)(i:Nat)(b:List Value):Ck:=match qH C.ws i with
 |some k=>{C with ws:=C.ws.set k (i,b)}
 |none=>{C with ws:=C.ws++[(i,b)]}
theorem bI(w:World)(n:Int)(b:List Value)(h:b.length=128):
 (Instr.build 160 #[(0,.int .i64 n),(1,.agg b.toArray)]).run Tryz.prog w=.ok (.agg (.int .i64 n::b).toArray) w:=by
 have hz:=zV Tryz.infoCw w
 have hzl:qU.length=129:=congrArg (· +1) zF.1
 have h1:∀w,(sizeOf 3).run Tryz.prog w=.ok 1 w:=yO cw
 have h2:∀w,(sizeOf 131).run Tryz.prog w=.ok 128 w:=yO (zS Tryz.infoBlock)
 generalize hZW:qU=ZW at*
 have hne:¬ZW=[]:=fun e=>by rw [e] at hzl;simp at hzl
 have f2:=v5 1 b (ZW.set 0 (.int .i64 n)).toArray (by simp [h,hzl])
 have hl:¬(¬b.length=128∨ZW.length<1+b.length):=by omega
 simp only [Instr.build,Sem.run_bind,hz,Result.andThen_ok,run_underlying Tryz.underlying160 w]
 simp [h1,h2,Value.cells,Instr.fill]
 rw [if_neg hne,if_neg hl,f2]
 simp only [Sem.run_pure]
 congr 2
 apply Array.ext'
 cases ZW with
 |nil=>exact absurd rfl hne
 |cons z Z=>simp [h];simp at hzl;omega
theorem bJ(w:World)(cs:List Value)(h:cs.length=129):
 (Instr.buildSlice 156 1 #[(0,.agg cs.toArray)]).run Tryz.prog w=.ok (.slice (some ⟨w.heap.size,0,none⟩) 1 1) (w.alloc (.cells cs.toArray 160)):=by
 have hz:=zV Tryz.infoCw w
 have h2:∀w,(sizeOf 160).run Tryz.prog w=.ok 129 w:=yO (zS Tryz.infoCw)
 have hzl:qU.length=129:=congrArg (· +1) zF.1
 generalize hZW:qU=ZW at*
 have hl:¬(¬cs.length=129∨129<cs.length):=by omega
 simp only [Instr.buildSlice,Sem.run_bind,Result.andThen_ok,run_underlying Tryz.underlying156 w]
 first
  |(simp [h2,Value.cells,Instr.fill]
    rw [if_neg hl,j6 cs _ (by simp [h])]
    simp [newRow]
    done)
  |(simp [h2,hz,Value.cells,Instr.fill,hzl]
    rw [if_neg hl,j6 cs _ (by simp [h])]
    simp [newRow])
def Jz(parts:Array (Nat×Value)):Sem Value:=Instr.build 160 parts
theorem dz(parts:Array (Nat×Value)):Instr.build 160 parts=Jz parts:=rfl
theorem g4(w:World)(n:Int)(b:List Value)(h:b.length=128):(Jz #[(0,.int .i64 n),(1,.agg b.toArray)]).run Tryz.prog w=.ok (.agg (.int .i64 n::b).toArray) w:=bI w n b h
def JA(len:Nat)(parts:Array (Nat×Value)):Sem Value:=Instr.buildSlice 156 len parts
theorem dA(len:Nat)(parts:Array (Nat×Value)):Instr.buildSlice 156 len parts=JA len parts:=rfl
theorem g5(w:World)(c:Value)(cs:List Value)(h:cs.length=128):(JA 1 #[(0,.agg (c::cs).toArray)]).run Tryz.prog w=.ok (.slice (some ⟨w.heap.size,0,none⟩) 1 1) (w.alloc (.cells (c::cs).toArray 160)):=
 bJ w (c::cs) (by simp [h])
def vy(v:Value):Sem Value:=Instr.loadAt 154 v
theorem xD(v:Value):Instr.loadAt 154 v=vy v:=rfl
theorem yV(w:World)(b o:Nat)(cs:List Value)(hc:w.rangeAt b o cs)(h:cs.length=128):(vy (.pointer (some ⟨b,o,none⟩))).run Tryz.prog w=.ok (.agg cs.toArray) w:=
 run_loadAt_mid w b o 154 cs _ hc yr rfl (by rw [h];exact zS Tryz.infoPage)
theorem qm.pushed{w w2:World}{bc bd:Nat}{T:Nat→Prop}{C:Ck}{a:Option Addr}{cap:Nat}(h:qm w bc bd T C a cap)(hfew:C.ws.length<1000)(o:Obj)(i:Nat)(b:List Value)(hb:zy b)(g c2:Nat)
 (hown:w2.ownsRow 0 160 129 (.slice (some ⟨g,0,none⟩) (C.ws.length+1) c2) (C.ws.length+1) ((C.ws.map zM).flatten++.int .i64 (i:Int)::b))
 (hgrow:(w.alloc o).drew.grownBy w2 (Value.slice a C.ws.length cap).ownBlock) (hat:(Value.slice a C.ws.length cap).ownBlock=some g∨g=w.heap.size+1):
 qm (w2.setCell ⟨bc,1,none⟩ (.slice (some ⟨g,0,none⟩) (C.ws.length+1) c2)) bc bd (fun k=>k=bc∨k=g) {C with ws:=C.ws++[(i,b)]} (some ⟨g,0,none⟩) c2∧
  (∀k,(k=bc∨k=g)→T k∨w.heap.size≤k)∧Kept T w (w2.setCell ⟨bc,1,none⟩ (.slice (some ⟨g,0,none⟩) (C.ws.length+1) c2)):=by
 have hbc:=h.lt bc h.bcT
 have hgb:g≠bc:=by
  rcases hat with e|e
  ·exact fun e2=>h.ap (by rw [e,e2])
  ·omega
 have hk2:Kept (fun k=>(Value.slice a C.ws.length cap).ownBlock=some k) (w.alloc o).drew w2:=Kept.grown hgrow (fun k hk=>hk)
 have hk:Kept (fun k=>(Value.slice a C.ws.length cap).ownBlock=some k) w w2:=((Kept.alloc _ w o).trans (Kept.drew _ _) iL).trans hk2 iL
 have hset:=Kept.setCell (S:=fun k=>k=bc) w2 ⟨bc,1,none⟩ (.slice (some ⟨g,0,none⟩) (C.ws.length+1) c2) rfl
 have hl:(C.ws++[(i,b)]).length=C.ws.length+1:=by simp
 refine⟨⟨?_,?_,?_,?_,?_,?_⟩,?_,?_⟩
 ·intro p hp
  rcases List.mem_append.1 hp with hp|hp
  ·exact h.ok p hp
  ·rw [List.mem_singleton.1 hp];exact hb
 ·simp only [hl]
  have e:w2.heap[bc]? =_:=(hk.block bc hbc (fun e=>h.ap e)).trans h.head
  rw [heap_setCell_same w2 bc 1 _ _ _ e];rfl
 ·simp only [hl]
  have:=hset.owns hown (fun k hk e=>by simp [Value.ownBlock] at hk;omega)
  simpa [zM] using this
 ·intro k;simp only [hl];simp [Value.ownBlock,eq_comm]
 ·simp [Value.ownBlock];exact hgb
 ·simp only [hl];omega
 ·intro k hk
  rcases hk with rfl|rfl
  ·exact .inl h.bcT
  ·rcases hat with e2|e2
   ·exact .inl ((h.own k).2 (.inr e2))
   ·right;omega
 ·refine(hk.mono (fun k hk=>(h.own k).2 (.inr hk))).trans hset (fun k hk=>.inl (by rw [hk];exact h.bcT))
theorem g8{w:World}{g j:Nat}{cur:Array Value}{t:TypeId}{v:Value}(hg:w.heap[g]? =some (.cells cur t (0,0)))(hv:cur[j]? =some v):w.setCell ⟨g,j,none⟩ v=w:=by
 have hh:(w.setCell ⟨g,j,none⟩ v).heap=w.heap:=by
  apply Array.ext_getElem?
  intro k
  by_cases e:k=g
  ·subst e
   rw [heap_setCell_same w k j _ _ _ hg,hg]
   congr 2
   apply Array.ext_getElem?
   intro m
   rw [Array.getElem?_setIfInBounds]
   split
   next e=>subst e;rw [hv,if_pos (lT hv)]
   next=>rfl
  ·exact heap_setCell_other w ⟨g,j,none⟩ k v e
 cases w
 simp only [World.setCell] at hh ⊢
 rw [hh]
theorem qm.reset{w:World}{bc bd:Nat}{T:Nat→Prop}{C:Ck}{g cap:Nat}(h:qm w bc bd T C (some ⟨g,0,none⟩) cap)(k:Nat)(hk:k<C.ws.length)(b:List Value)(hb:zy b):
 qm (w.setCells g (k*129+1) b) bc bd T {C with ws:=C.ws.set k (C.ws[k].1,b)} (some ⟨g,0,none⟩) cap:=by
 have hbc:=h.lt bc h.bcT
 have hgb:bc≠g:=fun e=>h.ap (by rw [←e];rfl)
 have hl:(C.ws.set k (C.ws[k].1,b)).length=C.ws.length:=by simp
 refine⟨?_,?_,?_,by simp only [hl];exact h.own,by simp only [hl];exact h.ap,by simp only [hl];exact h.few⟩
 ·intro p hp
  rcases List.mem_or_eq_of_mem_set hp with hp|rfl
  ·exact h.ok p hp
  ·exact hb
 ·simp only [hl]
  rw [yG g bc hgb];exact h.head
 ·simp only [hl]
  have hrow:=h.row
  rw [show C.ws.length=(C.ws.map zM).length from by simp] at hrow
  have h2:=gr hrow h.wlen k (by simpa using hk) (.int .i64 (C.ws[k].1:Int)::b) (by simp [hb.1])
  have e1:(C.ws.map zM).set k (.int .i64 (C.ws[k].1:Int)::b)=(C.ws.set k (C.ws[k].1,b)).map zM:=by rw [List.map_set];rfl
  rw [e1] at h2
  have e2:(w.setCells g (k*129) (.int .i64 (C.ws[k].1:Int)::b))=w.setCells g (k*129+1) b:=by
   rw [World.setCells]
   congr 1
   have hc:w.cell? ⟨g,k*129,none⟩=some (.int .i64 (C.ws[k].1:Int)):=h.range k hk 0 _ rfl
   rcases h.row.2 with⟨h0,_⟩|⟨g',cap',cur,hv,_,hgg,_⟩
   ·cases h0
   ·cases hv
    refine g8 hgg ?_
    rw [cell_of_row w g (k*129) _ _ _ hgg] at hc
    exact hc
  rw [e2] at h2
  simpa using h2
theorem xE{C:Ck}{i k:Nat}(b:List Value)(h:qH C.ws i=some k):∃hk:k<C.ws.length,C.put i b={C with ws:=C.ws.set k (C.ws[k].1,b)}:=by
 obtain⟨hk,_,h2⟩:=yR (D:=⟨[],[],0,0⟩) h
 have:C.ws[k].1=i:=by omega
 exact⟨hk,by unfold Ck.put;rw [h,this]⟩
theorem xX{C:Ck}{i:Nat}(b:List Value)(h:qH C.ws i=none):C.put i b={C with ws:=C.ws++[(i,b)]}:=by unfold Ck.put;rw [h]
section
attribute [local go_sem ↓] Go.wp_at_zero Go.wp_at_succ dz dA xD
attribute [local go_sem] g4 g5
theorem cZ(w:World)(bc bd:Nat)(T:Nat→Prop)(C:Ck)(a:Option Addr)(cap:Nat)(h:qm w bc bd T C a cap)(i:Nat)(b:List Value)(hb:zy b)(hfew:C.ws.length<1000)(hx:qH C.ws i=none):
 Calls Tryz.prog 135 #[.pointer (some ⟨bc,0,none⟩),.int .i64 i,.agg b.toArray] w fun e w'=>e=.returned (.tuple #[])∧(∃T',Chg w' bc bd T' (C.put i b)∧∀k,T' k→T k∨w.heap.size≤k)∧Kept T w w':=by
 obtain⟨hb1,hb2⟩:=hb
 have HX:Hid _:=hx
 have HC:Hid _:=h
 have hbc:=h.lt bc h.bcT
 have HK1:Hid (Kept (fun _=>False) w (w.alloc (.cells b.toArray 154))):=Kept.alloc _ _ _
 clear h hx
 obtain⟨i0,hi0,hz0,hz1,hz2⟩:=info_parts Tryz.infoCw
 have HI0:Hid (Tryz.prog.info? 160=some i0∧i0.zero=some (.agg qU.toArray)∧i0.size=129∧i0.bytes=136):=⟨hi0,hz0,hz1,hz2⟩
 clear hi0 hz0 hz1 hz2
 go_enter Tryz.func135,Tryz.ntmps135
 go_wp2_with (go_at_call 172;refine(jG _ bc bd T C a cap (HC.out.kept HK1.out nF) i).mono ?_;rintro e w1 ⟨rfl,hk1⟩;rw [HX.out];unfold KU;have HK2:Hid _:=hk1;have HC1:Hid (qm w1 bc bd T C a cap):=(HC.out.kept HK1.out nF).kept hk1 nF;have HB:Hid (w1.heap[w.heap.size]? =some (.cells b.toArray 154 (0,0))):=(hk1.block w.heap.size (by simp) (fun hf=>hf)).trans (heap_alloc_new w _);clear hk1)
 have hc1:=HC1.out.c1
 have hf1:=HC1.out.fz 1
 have hlt1:=HC1.out.lt bc HC1.out.bcT
 have hr1:(vy (.pointer (some ⟨w.heap.size,0,none⟩))).run Tryz.prog w1.drew=.ok (.agg b.toArray) w1.drew:=yV _ _ _ b (zQ (w:=w1.drew) HB.out) hb1
 have HOWN:Hid (((w1.alloc (.cells (.int .i64 (i:Int)::b).toArray 160)).drew).ownsRow 0 160 129 (.slice a C.ws.length cap) C.ws.length (C.ws.map zM).flatten):=HC1.out.row.alloc _
 go_region_law ((refine step_append_lies _ rfl (.tmp 24) (.tmp 28) 156 rfl 0 160 i0 _ 129 136 Tryz.underlying156 HI0.out.1 HI0.out.2.1 HI0.out.2.2.1 HI0.out.2.2.2 (congrArg (· +1) zF.1) (by omega) (.slice a C.ws.length cap) C.ws.length _ (by rfl) HOWN.out ⟨w1.heap.size,0,none⟩ 1 1 (.int .i64 (i:Int)::b) (by rfl) (by simp [hb1]) (World.news_of_block (w:=(w1.alloc (.cells (.int .i64 (i:Int)::b).toArray 160)).drew) (heap_alloc_new w1 _)) (List.forall_mem_cons.2 ⟨rfl,hb2⟩) (by omega) (by unfold maxLen;omega) (by omega) (Nat.zero_le _) (w1.heap.size+1) (by simp) ?_;intro g c2 w2 hown hgrow hat hlt2;have HP:Hid _:=qm.pushed HC1.out hfew _ i b ⟨hb1,hb2⟩ g c2 hown hgrow hat;have hcc:w2.cell? ⟨bc,1,none⟩=some (.slice a C.ws.length cap):=(hgrow.cell_far ⟨bc,1,none⟩ (by simp;omega) (fun e=>HC1.out.ap e.symm)).trans (by simpa using HC1.out.kept (Kept.alloc (fun _=>False) w1 _) nF |>.c1);have hff:w2.frozen? ⟨bc,1,none⟩=false:=(hgrow.frozen_far ⟨bc,1,none⟩ (by simp;omega) (fun e=>HC1.out.ap e.symm)).trans (by simpa using HC1.out.kept (Kept.alloc (fun _=>False) w1 _) nF |>.fz 1);clear hown hgrow hat))
 all_goals
  go_wp2
  go_end0
  have hs1:w.heap.size+1≤w1.heap.size:=by have:=HK2.out.size;simpa using this
  have hk12:Kept (fun _=>False) w w1:=HK1.out.trans HK2.out iL
  refine⟨rfl,⟨_,⟨_,_,by rw [xX b HX.out];exact HP.out.1⟩,fun k hk=>?_⟩,(hk12.mono fE).trans HP.out.2.2 (fun k hk=>.inl hk)⟩
  rcases HP.out.2.1 k hk with h1|h1
  ·exact .inl h1
  ·right;omega
end
theorem QI(w:World)(bc bd:Nat)(T:Nat→Prop)(C:Ck)(g cap:Nat)(h:qm w bc bd T C (some ⟨g,0,none⟩) cap)(i k:Nat)(b:List Value)(hb:zy b)(hx:qH C.ws i=some k):
 Calls Tryz.prog 135 #[.pointer (some ⟨bc,0,none⟩),.int .i64 i,.agg b.toArray] w fun e w'=>e=.returned (.tuple #[])∧Chg w' bc bd T (C.put i b)∧Kept T w w':=by
 obtain⟨hk,hput⟩:=xE b hx
 have HPUT:Hid _:=hput
 have HX:Hid _:=hx
 have HC:Hid _:=h
 have hbc:=h.lt bc h.bcT
 have HK1:Hid (Kept (fun _=>False) w (w.alloc (.cells b.toArray 154))):=Kept.alloc _ _ _
 have hqb:b.length=128:=hb.1
 have hqo:∀v∈b,v.oneCell'=true:=hb.2
 have HBO:Hid (zy b):=hb
 have hgT:T g:=(h.own g).2 (.inr rfl)
 have hne1:bc≠g:=fun e=>h.ap (by rw [←e];rfl)
 clear h hx hput hb
 have hkk:(k:Int)<(C.ws.length:Int):=by omega
 go_enter Tryz.func135,Tryz.ntmps135
 go_wp2_with (go_at_call 172;refine(jG _ bc bd T C _ cap (HC.out.kept HK1.out nF) i).mono ?_;rintro e w1 ⟨rfl,hk1⟩;rw [HX.out];unfold KU;have HK2:Hid _:=hk1;have HC1:Hid (qm w1 bc bd T C (some ⟨g,0,none⟩) cap):=(HC.out.kept HK1.out nF).kept hk1 nF;have HB:Hid (w1.heap[w.heap.size]? =some (.cells b.toArray 154 (0,0))):=(hk1.block w.heap.size (by simp) (fun hf=>hf)).trans (heap_alloc_new w _);clear hk1)
 have hc1:=HC1.out.c1
 have hth:w1.there g (k*129+1) 128:=fun j hj=>by
  have hr:=HC1.out.row
  rw [show C.ws.length=(C.ws.map zM).length from by simp] at hr
  have:=gp hr HC1.out.wlen k (by simpa using hk) (j+1) (by omega)
  rw [Nat.add_assoc,Nat.add_comm 1 j];exact this
 have hrw:w1.rangeAt w.heap.size 0 b:=zQ HB.out
 have hgl:g<w.heap.size:=HC.out.lt g hgT
 have hne2:w.heap.size≠g:=by omega
 have hu:=Tryz.underlying131
 have hu2:=yr
 have hsz:(Tryz.prog.info? 131).map (·.size)=some b.length:=by rw [hqb];exact zS Tryz.infoBlock
 have hsz2:(Tryz.prog.info? 154).map (·.size)=some b.length:=by rw [hqb];exact zS Tryz.infoPage
 go_region_held3 (fun w'=>w'.cell? ⟨bc,1,none⟩=some (.slice (some ⟨g,0,none⟩) C.ws.length cap)∧w'.rangeAt w.heap.size 0 b∧w'.there g (k*129+1) 128)
  ((go_split_ands;simp only [World.rangeAt_drew,World.there_drew,World.cell?_drew] at *; refine⟨?_,?_,?_⟩<;>first|assumption|(rw [World.cell?_setCells_out _ _ _ _ _ (by intro h1 _;simp at h1;omega)];assumption)|(refine World.rangeAt_setCells_apart (by assumption) _ _ _ (by omega))|(apply World.there_setCells;assumption)))
  (fail)
 go_wp2
 refine bodyPost_ret (results_none rfl _ _ _) rfl ?_
 have hk12:Kept (fun _=>False) w w1.drew:=(HK1.out.trans HK2.out iL).trans (Kept.drew _ _) iL
 have hr:=(HC1.out.kept (Kept.drew (fun _=>False) w1) nF).reset k hk b HBO.out
 exact⟨rfl,⟨_,_,by rw [HPUT.out];exact hr⟩,(hk12.mono fE).trans (Kept.setCells (S:=T) g hgT b (k*129+1) w1.drew) iL⟩
theorem xF(w:World)(bc bd:Nat)(S T:Nat→Prop)(D:Dk)(C:Ck)(h:Cw w bc bd S T D C)(i:Nat)(b:List Value)(hb:zy b)(hfew:C.ws.length<1000):
 Calls Tryz.prog 135 #[.pointer (some ⟨bc,0,none⟩),.int .i64 i,.agg b.toArray] w fun e w'=>e=.returned (.tuple #[])∧(∃T',Cw w' bc bd S T' D (C.put i b)∧∀k,T' k→T k∨w.heap.size≤k)∧Kept T w w':=by
 obtain⟨a,cap,hc⟩:=h.chg
 have hS:=h.disk.lt
 cases hx:qH C.ws i with
 |none=>
  refine(cZ w bc bd T C a cap hc i b hb hfew hx).mono ?_
  rintro e w' ⟨h1,⟨T',h2,h3⟩,h4⟩
  exact⟨h1,⟨T',⟨h.disk.kept h4 h.apart,h2,fun k hk hT=>by
   rcases h3 k hT with h5|h5
   ·exact h.apart k hk h5
   ·have:=hS k hk;omega⟩,h3⟩,h4⟩
 |some k=>
  obtain⟨hk,_⟩:=xE b hx
  obtain⟨g,rfl⟩:=hc.rowAt (by omega)
  refine(QI w bc bd T C g cap hc i k b hb hx).mono ?_
  rintro e w' ⟨h1,h2,h4⟩
  exact⟨h1,⟨T,⟨h.disk.kept h4 h.apart,h2,h.apart⟩,fun k hk=>.inl hk⟩,h4⟩
theorem g9(w:World)(b:Nat)(t:TypeId)(l:List UInt8)(h:yl w b t l)(k o cap:Nat)(hk:k=4∨k=5)(ho:o+zk k≤l.length)(hcap:zk k≤cap)(e:En)(he:e.Ok)(hz:(l.drop o).take 8=List.replicate 8 0):
 Calls Tryz.prog 193 #[.int .u8 (k:Int),.slice (some ⟨b,o,none⟩) (zk k) cap,.agg #[.string e.pl.key,.int .i64 e.pl.num,.bool e.mark,.int .i64 (e.size:Int),.int .i64 (e.at_:Int)]] w fun r w'=>r=.returned (.tuple #[])∧yl w' b t (qw l o (xB k e))∧Kept (fun i=>i=b) w w':=by
 rcases hk with rfl|rfl
 ·exact vx w b t l h o cap ho hcap e he hz
 ·exact uW w b t l h o cap ho hcap e he hz
theorem c7(k:Nat)(es:List En)(i:Nat)(hi:i<es.length):(za k (es.take i)).push (xB k es[i])=za k (es.take (i+1)):=by
 unfold za Pg.push
 rw [List.take_succ_eq_append_getElem hi,List.map_append];rfl
theorem QJ{p:Pg}(h:p.Ok)(hf:(p.items.length+1)*zk p.kind≤124)(hl:p.items.length+1≤124)(hw:8≤zk p.kind):(((p.grown 1).bytes.drop (4+p.items.length*zk p.kind)).take 8)=List.replicate 8 0:=by
 have hg:=h.grown 1 hf hl
 have hi:p.items.length<(p.grown 1).items.length:=by rw [Pg.grown_len];omega
 have h1:=hg.item p.items.length hi
 have h2:(p.grown 1).items[p.items.length]=List.replicate (zk p.kind) 0:=by simp [Pg.grown]
 have h3:(p.grown 1).kind=p.kind:=rfl
 rw [h2,h3] at h1
 have h4:=congrArg (List.take 8) h1
 rw [List.take_take,Nat.min_eq_left hw,List.take_replicate,Nat.min_eq_left hw] at h4
 exact h4
theorem zH.below{w:World}{P:Nat→Prop}{a:Option Addr}{es:List En}(h:zH w P a es):zH w (fun j=>P j∧j<w.heap.size) a es:=
 ⟨h.at_.imp id (fun ⟨g,o,h1,h2,h3,h4⟩=>⟨g,o,h1,⟨h2,h3⟩,h3,h4⟩),h.few⟩
section
attribute [local go_sem ↓] xD
theorem JB(w:World)(bc bd:Nat)(S T:Nat→Prop)(D:Dk)(C:Ck)(h:Cw w bc bd S T D C)(P:Nat→Prop)(a:Option Addr)(cap:Nat)(k:Nat)(hk:k=4∨k=5)(es:List En)(hr:zH w P a es)(hes:∀e∈es,e.Ok)(hlen:es.length≤6)(at_:Nat)(hfew:C.ws.length<1000):
 Calls Tryz.prog 173 #[.agg #[.int .u8 (k:Int),.slice a es.length cap],.pointer (some ⟨bc,0,none⟩),.int .i64 at_] w fun r w'=>r=.returned (.tuple #[])∧(∃T',Cw w' bc bd S T' D (C.put at_ (zl (za k es)))∧∀j,T' j→T j∨w.heap.size≤j)∧Kept T w w':=by
 obtain⟨Zb,hZb,hz⟩:∃Zb:List Value,Zb=zT∧∀w,(zeroValue 154).run Tryz.prog w=.ok (.agg Zb.toArray) w:=⟨zT,rfl,zV Tryz.infoPage⟩
 have HZb:Hid (zy Zb):=by rw [hZb];exact zF
 clear hZb
 have HI:Hid ((Tryz.prog.info? 154).map (·.size)=some 128):=zS Tryz.infoPage
 have HH:Hid _:=h
 have HR:Hid _:=hr
 have hk6:k≤6:=by rcases hk with rfl|rfl<;>omega
 have HN1:Hid (zy (zl (Pg.new k))):=qP (Pg.new_ok k hk6)
 have HK0:Hid (Kept (fun _=>False) w (w.alloc (.cells #[.int .u8 (k:Int),.slice a es.length cap] 209))):=Kept.alloc _ _ _
 have hwk:8≤zk k∧zk k≤20:=by rcases hk with rfl|rfl<;>decide
 clear h hr
 go_enter Tryz.func173,Tryz.ntmps173
 go_wp2_with (first
  |(go_at_call 131;refine(xQ _ k hk6).mono ?_;rintro r w1 ⟨rfl,hk1⟩;have HK1:Hid _:=hk1;have hbx1:w1.heap[w.heap.size]? =_:=(hk1.block w.heap.size (by simp) (fun hf=>hf)).trans (heap_alloc_new w _);have HBX1:Hid _:=hbx1;have hx1:w1.cell? ⟨w.heap.size,1,none⟩=some (.slice a es.length cap):=(cR hbx1 rfl);have hl1:w.heap.size<w1.heap.size:=(lT hbx1);clear hk1 hbx1)
  |(show wpList _ _ _ ({dst:=none,op:=.store _ (.tmp 6) (.tmp 11),type:=_,pos:=_,after:=_,guard:=_}::_) _ _;refine zg rfl 154 (.tmp 6) (.tmp 11) rfl _ _ (zl (Pg.new k)) (by simp) rfl rfl (by rw [HN1.out.1];exact HI.out) (by rw [List.size_toArray,HZb.out.1,HN1.out.1]) HN1.out.2 ?_))
 have HP0:Hid (qu (w1.alloc (.cells (zl (Pg.new k)).toArray 154)) w1.heap.size (za k (es.take 0))):=⟨⟨heap_alloc_new w1 _⟩,Pg.new_ok k hk6⟩
 have HKW:Hid (Kept (fun _=>False) w (w1.alloc (.cells (zl (Pg.new k)).toArray 154))):=(HK0.out.trans HK1.out iL).trans (Kept.alloc _ _ _) iL
 have HBXW:Hid ((w1.alloc (.cells (zl (Pg.new k)).toArray 154)).heap[w.heap.size]? =some (.cells #[.int .u8 (k:Int),.slice a es.length cap] 209 (0,0))):=((Kept.alloc (fun _=>False) w1 _).block w.heap.size hl1 (fun hf=>hf)).trans HBX1.out
 have hsW:(w1.alloc (.cells (zl (Pg.new k)).toArray 154)).heap.size=w1.heap.size+1:=by simp
 generalize (w1.alloc (.cells (zl (Pg.new k)).toArray 154))=W at*
 go_loopw [15] (fun t wr=>∃(i:Nat),i≤es.length∧t=.int .i64 i∧Kept (fun j=>j=w1.heap.size) W wr∧qu wr w1.heap.size (za k (es.take i))) (fun t _=>es.length-(intOf t).toNat)
 case atStart=>exact⟨0,Nat.zero_le _,rfl,Kept.refl _ _,HP0.out⟩
 case round=>
  obtain⟨i,hi,rfl,hkept,hpg⟩:=hrel
  have HK:Hid _:=hkept
  have HP:Hid _:=hpg
  have hplen:(za k (es.take i)).items.length=i:=by simp [za];omega
  have hbxr:wr.heap[w.heap.size]? =_:=(hkept.block w.heap.size (by omega) (by omega)).trans HBXW.out
  have HBXR:Hid _:=hbxr
  have hk0:wr.cell? ⟨w.heap.size,0,none⟩=some (.int .u8 (k:Int)):=cR hbxr rfl
  have hlr:w.heap.size<wr.heap.size:=(lT hbxr)
  have hpb:=hpg.bs.lt
  have HRR:Hid (zH wr (fun j=>P j∧j<w.heap.size) a es):=(HR.out.below.kept HKW.out nF).kept hkept (fun j hj hjj=>by omega)
  clear hkept hpg hbxr
  by_cases hlt:i<es.length
  ·obtain⟨g,o,rfl⟩:=HRR.out.base (by omega)
   obtain⟨c0,c1,c2,c3,c4,hPg,hgl⟩:=HRR.out.cells i hlt
   have HEO:Hid es[i].Ok:=hes _ (List.getElem_mem hlt)
   have HSN:Hid _:=c7 k es i hlt
   generalize es[i]=e at*
   have hmI:(i:Int)<(es.length:Int):=by omega
   go_wp2
   have hWW:(wr.alloc (.cells (qp e).toArray 109))=(wr.alloc (.cells #[.string e.pl.key,.int .i64 e.pl.num,.bool e.mark,.int .i64 (e.size:Int),.int .i64 (e.at_:Int)] 109)):=rfl
   have HW2:Hid ((wr.alloc (.cells (qp e).toArray 109)).heap[wr.heap.size]? =some (.cells (qp e).toArray 109 (0,0))):=heap_alloc_new wr _
   have HKA:Hid (Kept (fun _=>False) wr (wr.alloc (.cells (qp e).toArray 109))):=Kept.alloc _ _ _
   have hsA:(wr.alloc (.cells (qp e).toArray 109)).heap.size=wr.heap.size+1:=by simp
   rw [hWW] at HW2 HKA hsA
   clear hWW
   generalize (wr.alloc (.cells #[.string e.pl.key,.int .i64 e.pl.num,.bool e.mark,.int .i64 (e.size:Int),.int .i64 (e.at_:Int)] 109))=W2 at*
   have hj0:W2.cell? ⟨wr.heap.size,0,none⟩=some (.string e.pl.key):=cR HW2.out rfl
   have hj1:W2.cell? ⟨wr.heap.size,1,none⟩=some (.int .i64 e.pl.num):=cR HW2.out rfl
   have hj2:W2.cell? ⟨wr.heap.size,2,none⟩=some (.bool e.mark):=cR HW2.out rfl
   have hj3:W2.cell? ⟨wr.heap.size,3,none⟩=some (.int .i64 (e.size:Int)):=cR HW2.out rfl
   have hj4:W2.cell? ⟨wr.heap.size,4,none⟩=some (.int .i64 (e.at_:Int)):=cR HW2.out rfl
   have hkk:W2.cell? ⟨w.heap.size,0,none⟩=some (.int .u8 (k:Int)):=(HKA.out.cell (a:=⟨w.heap.size,0,none⟩) hlr (fun hf=>hf)).trans hk0
   have HPA:Hid (qu W2.drew w1.heap.size (za k (es.take i))):=(HP.out.kept HKA.out (fun hf=>hf)).kept (Kept.drew (fun _=>False) W2) (fun hf=>hf)
   have hfit:(i+1)*zk k≤124:=by
    have h6:i+1≤6:=by omega
    have:=Nat.mul_le_mul h6 hwk.2
    omega
   have HGV:Hid (jO w1.heap.size (za k (es.take i)).kind (za k (es.take i)).items.length 1=.slice (some ⟨w1.heap.size,4+i*zk k,none⟩) (zk k) (124-i*zk k)):=by
    show jO _ _ _ _=_
    rw [hplen]
    unfold jO
    rw [Nat.one_mul]
    rfl
   have HPO:Hid (za k (es.take i)).Ok:=HP.out.ok
   have HZ8:Hid _:=QJ (p:=za k (es.take i)) HPO.out (by rw [hplen];exact hfit) (by rw [hplen];omega) hwk.1
   have HIL:Hid ((xB k e).length=zk k):=cM HEO.out hk
   have HPS:Hid _:=HPO.out.push_over (xB k e) HIL.out (by rw [hplen];exact hfit)
   have HOK:Hid (za k (es.take (i+1))).Ok:=dr hk (fun x hx=>hes x (List.mem_of_mem_take hx)) (by rw [List.length_take];omega)
   have hmul:(i+1)*zk k=i*zk k+zk k:=Nat.succ_mul ..
   rw [HSN.out] at HPS
   rw [hplen] at HZ8 HPS
   have hnk:(za k (es.take i)).kind=k:=rfl
   rw [hnk] at HZ8 HPS
   have HGL:Hid (((za k (es.take i)).grown 1).bytes.length=128):=(HPO.out.grown 1 (by rw [hplen];exact hfit) (by rw [hplen];omega)).len
   generalize hP0:za k (es.take i)=p at*
   go_region_held3 (fun w'=>w'.cell? ⟨w.heap.size,0,none⟩=some (.int .u8 (k:Int))∧w'.cell? ⟨wr.heap.size,0,none⟩=some (.string e.pl.key)∧w'.cell? ⟨wr.heap.size,1,none⟩=some (.int .i64 e.pl.num)∧w'.cell? ⟨wr.heap.size,2,none⟩=some (.bool e.mark)∧w'.cell? ⟨wr.heap.size,3,none⟩=some (.int .i64 (e.size:Int))∧w'.cell? ⟨wr.heap.size,4,none⟩=some (.int .i64 (e.at_:Int))) (go_keep) (first
    |(go_at_call 133;refine(jP _ _ _ (by exact HPA.out) 1 (by rw [hplen,hnk];exact hfit) (by rw [hplen];omega) (by rw [hnk];omega)).mono ?_;rintro r w3 ⟨hr3,hp3,hk3⟩;rw [HGV.out] at hr3;subst hr3;have HP3:Hid _:=hp3;have HK3:Hid (Kept (fun j=>j=w1.heap.size) W2.drew w3):=hk3;have hkk3:w3.cell? ⟨w.heap.size,0,none⟩=some (.int .u8 (k:Int)):=(hk3.cell (a:=⟨w.heap.size,0,none⟩) (show w.heap.size<W2.heap.size by omega) (by show ¬w.heap.size=w1.heap.size;omega)).trans hkk;have hb3:w3.heap[wr.heap.size]? =_:=(hk3.block wr.heap.size (show wr.heap.size<W2.heap.size by omega) (by omega)).trans HW2.out;have hj03:w3.cell? ⟨wr.heap.size,0,none⟩=some (.string e.pl.key):=(cR hb3 rfl);have hj13:w3.cell? ⟨wr.heap.size,1,none⟩=some (.int .i64 e.pl.num):=(cR hb3 rfl);have hj23:w3.cell? ⟨wr.heap.size,2,none⟩=some (.bool e.mark):=(cR hb3 rfl);have hj33:w3.cell? ⟨wr.heap.size,3,none⟩=some (.int .i64 (e.size:Int)):=(cR hb3 rfl);have hj43:w3.cell? ⟨wr.heap.size,4,none⟩=some (.int .i64 (e.at_:Int)):=(cR hb3 rfl);have HB3:Hid _:=hb3;have hl3:wr.heap.size<w3.heap.size:=(lT hb3);clear hp3 hk3 hb3)
    |(go_at_call 193;refine(g9 _ _ _ _ (by exact HP3.out.bs) k (4+i*zk k) (124-i*zk k) hk (by rw [HGL.out];omega) (by omega) e HEO.out (by exact HZ8.out)).mono ?_;rintro r w4 ⟨rfl,hb4,hk4⟩;rw [HPS.out] at hb4;have HB4:Hid _:=hb4;have HK4:Hid (Kept (fun j=>j=w1.heap.size) w3 w4):=hk4;have hkk4:w4.cell? ⟨w.heap.size,0,none⟩=some (.int .u8 (k:Int)):=(hk4.cell (a:=⟨w.heap.size,0,none⟩) (show w.heap.size<w3.heap.size by omega) (by show ¬w.heap.size=w1.heap.size;omega)).trans hkk3;have hb5:w4.heap[wr.heap.size]? =_:=(hk4.block wr.heap.size hl3 (by omega)).trans HB3.out;have hj04:w4.cell? ⟨wr.heap.size,0,none⟩=some (.string e.pl.key):=(cR hb5 rfl);have hj14:w4.cell? ⟨wr.heap.size,1,none⟩=some (.int .i64 e.pl.num):=(cR hb5 rfl);have hj24:w4.cell? ⟨wr.heap.size,2,none⟩=some (.bool e.mark):=(cR hb5 rfl);have hj34:w4.cell? ⟨wr.heap.size,3,none⟩=some (.int .i64 (e.size:Int)):=(cR hb5 rfl);have hj44:w4.cell? ⟨wr.heap.size,4,none⟩=some (.int .i64 (e.at_:Int)):=(cR hb5 rfl);clear hb4 hk4 hb5))
   have HKF:Hid (Kept (fun j=>j=w1.heap.size) W w4):=((HK.out.trans (HKA.out) fE).trans (Kept.trans (b:=W2.drew) (Kept.drew _ W2) HK3.out iL) iL).trans HK4.out iL
   have HPF:Hid (qu w4 w1.heap.size (za k (es.take (i+1)))):=⟨HB4.out,HOK.out⟩
   go_wp2
   go_roundw
   ·exact⟨i+1,by omega,rfl,HKF.out,HPF.out⟩
   ·show es.length-((i:Int)+1).toNat<es.length-(i:Int).toNat
    omega
  ·have hie:i=es.length:=by omega
   subst hie
   have hmI:¬(es.length:Int)<(es.length:Int):=by omega
   have HPE:Hid (qu wr w1.heap.size (za k es)):=by have:=HP.out;rw [List.take_length] at this;exact this
   have HOV:Hid (zy (zl (za k es))):=qP HPE.out.ok
   have hrP:(vy (.pointer (some ⟨w1.heap.size,0,none⟩))).run Tryz.prog wr=.ok (.agg (zl (za k es)).toArray) wr:=yV _ _ _ _ (zQ HPE.out.bs.at_) HOV.out.1
   have HCW:Hid (Cw wr bc bd S T D C):=by
    have hS:=HH.out.disk.lt
    have hT:=HH.out.chg.lt
    exact(HH.out.kept0 HKW.out).kept HK.out (fun j hj hjj=>by have:=hS j hj;omega) (fun j hj hjj=>by have:=hT j hj;omega)
   go_wp2_with (go_at_call 135;refine(xF _ bc bd S T D C HCW.out at_ _ HOV.out hfew).mono ?_;rintro r w5 ⟨rfl,⟨T5,hc5,hT5⟩,hk5⟩;have HC5:Hid _:=hc5;have HT5:Hid _:=hT5;have HK5:Hid _:=hk5;clear hc5 hT5 hk5)
   go_end0
   have hz1:=HKW.out.size
   have hz2:=HK.out.size
   refine⟨rfl,⟨T5,HC5.out,fun j hj=>(HT5.out j hj).imp id (fun h=>by omega)⟩,?_⟩
   have h1:Kept T w wr:=(HKW.out.mono fE).trans HK.out (fun j hj=>.inr (by omega))
   exact h1.trans HK5.out iL
end
end prog
namespace prog
def zL(m:List UInt8):Pg:=⟨3,0,m.map fun b=>[b]⟩
theorem ue(m:List UInt8):(m.map fun b=>[b]).flatten=m:=by
 induction m with
 |nil=>rfl
 |cons b m ih=>simp [ih]
theorem xi{m:List UInt8}(h:m.length=124):(zL m).Ok where
 kind:=by simp [zL]
 link:=by simp [zL]
 wide:=fun i hi=>by obtain⟨b,_,rfl⟩:=List.mem_map.1 hi;rfl
 fits:=by simp [zL,zk,h]
 few:=by simp [zL,h]
theorem xY{m:List UInt8}(h:m.length=124):(zL m).bytes=[3,124,0,0]++m:=by
 simp [Pg.bytes,zL,zk,h,ue,bytesOf]
def jA:List UInt8:=List.replicate 124 0
theorem Xk:jA.length=124:=by simp [jA]
theorem Xl:(Pg.new 3).grown 124=zL jA:=by
 simp [Pg.grown,Pg.new,zL,jA,zk]
def zO(m:List UInt8)(i:Nat):Bool:=(m.getD (i/8) 0).toNat.testBit (i%8)
def kT(m:List UInt8)(i:Nat):List UInt8:=m.set (i/8) (UInt8.ofNat ((m.getD (i/8) 0).toNat|||2^(i%8)))
def xH(m:List UInt8)(i:Nat):List UInt8:=m.set (i/8) (UInt8.ofNat ((m.getD (i/8) 0).toNat&&&(255^^^2^(i%8))))
theorem Za(m:List UInt8)(i:Nat):(kT m i).length=m.length:=by simp [kT]
theorem JC(m:List UInt8)(i:Nat):(xH m i).length=m.length:=by simp [xH]
theorem QK(i:Nat):2^(i%8)<256:=by
 have h:i%8≤7:=by omega
 have:=Nat.pow_le_pow_right (show 0<2 by omega) h
 omega
theorem vz(r s:Nat):(2^r).testBit s=decide (r=s):=Nat.testBit_two_pow
theorem JD(s:Nat)(h:s<8):(255:Nat).testBit s=true:=by
 have:(255:Nat)=2^8-1:=rfl
 rw [this,Nat.testBit_two_pow_sub_one];simpa using h
theorem Zc{m:List UInt8}{i:Nat}{v:Nat}(hv:v<256)(hi:i/8<m.length)(j:Nat):
 zO (m.set (i/8) (UInt8.ofNat v)) j=if j/8=i/8 then v.testBit (j%8) else zO m j:=by
 unfold zO
 by_cases e:j/8=i/8
 ·rw [if_pos e,e,List.getD_eq_getElem?_getD,List.getElem?_set_self hi,Option.getD_some]
  simp [Nat.mod_eq_of_lt hv]
 ·rw [if_neg e,List.getD_eq_getElem?_getD,List.getElem?_set_ne (Ne.symm e),←List.getD_eq_getElem?_getD]
theorem Xm{m:List UInt8}{i:Nat}(hi:i/8<m.length)(j:Nat):zO (kT m i) j=(zO m j||decide (j=i)):=by
 have hv:(m.getD (i/8) 0).toNat|||2^(i%8)<256:=Nat.or_lt_two_pow (n:=8) (m.getD (i/8) 0).toNat_lt (QK i)
 unfold kT
 rw [Zc hv hi]
 split
 next e=>
  rw [Nat.testBit_or,vz]
  unfold zO
  rw [e]
  congr 1
  simp;omega
 next e=>rw [decide_eq_false (by intro h;rw [h] at e;exact e rfl),Bool.or_false]
theorem Xn{m:List UInt8}{i:Nat}(hi:i/8<m.length)(j:Nat):zO (xH m i) j=(zO m j&&decide (j≠i)):=by
 have hv:(m.getD (i/8) 0).toNat&&&(255^^^2^(i%8))<256:=Nat.lt_of_le_of_lt Nat.and_le_left (m.getD (i/8) 0).toNat_lt
 unfold xH
 rw [Zc hv hi]
 split
 next e=>
  rw [Nat.testBit_and,Nat.testBit_xor,vz,JD _ (by omega)]
  unfold zO
  rw [e]
  congr 1
  by_cases h:j=i
  ·subst h;simp
  ·have:i%8≠j%8:=by omega
   simp [h,this]
 next e=>rw [decide_eq_true (by intro h;rw [h] at e;exact e rfl),Bool.and_true]
theorem QL(i:Nat):zO jA i=false:=by
 unfold zO jA
 rw [List.getD_eq_getElem?_getD,List.getElem?_replicate]
 split<;>simp
end prog
end Go.Proofs.YtcoengihaobddaaGreatDoor

/- Part 15 of 26 of a proof: Tree7, Chg1, Chg2, Chg3, Chg4, Tree8, Map1 -/
import Derived.Test.YtcoengihaobddaaGreatDoorJt14
import Derived.Lib.BufferWrite
set_option maxHeartbeats 8000000
set_option linter.unusedVariables false
set_option linter.unusedSimpArgs false
set_option maxRecDepth 8000
namespace Go.Proofs.YtcoengihaobddaaGreatDoor
namespace prog
open Go.ChangeShapes Go.WideShapes Go.ChangeAt Go.RowKit disk ref
open keys (zj zc zs zm)
def X4(args:Array Value):Sem Value:=Builtin.copy_ #[35, 9] 3 args
theorem Xm(args:Array Value):Builtin.copy_ #[35, 9] 3 args=X4 args:=rfl
theorem cQ:(Tryz.prog.info? 5).map (·.size)=some 1:=by kernel_rfl
theorem cS(w:World)(b:Nat)(t:TypeId)(l:List UInt8)(h:qJ w b t l)(o cap:Nat)(ho:o+8≤l.length)(key:ByteArray)(hk:key.size≤8):
 ∃w',(X4 #[.slice (some ⟨b,o,none⟩) 8 cap,.string key]).run Tryz.prog w=.ok (goInt key.size) w'∧qJ w' b t (zW l o key.data.toList)∧za (fun i=>i=b) w w':=by
 have hr:=Lib.run_copy_row_string (P:=Tryz.prog) w 35 9 3 5 b o 8 cap key (l.map zP).toArray t Tryz.underlying35 cQ h.at_ hk (by simp;omega)
 refine⟨_,hr,⟨?_⟩,⟨rfl,rfl,rfl,by simp,fun k _ hk=>setRow_other w b k _ (fun e=>hk (by rw [e]))⟩⟩
 rw [setRow_heap w b _ _ t _ h.at_]
 congr 2
 have hs:key.data.toList.length=key.size:=by simp
 unfold zW Lib.byteCells
 rw [hs]
 simp [zP,List.map_take,List.map_drop]
theorem Q1(l:List UInt8)(o:Nat)(key:ByteArray)(hk:key.data.toList.length≤8)(hz:(l.drop o).take 8=List.replicate 8 0)(ho:o+8≤l.length):zW l o key.data.toList=zW l o (keyBytes key):=by
 have e1:l.drop (o+key.data.toList.length)=List.replicate (8-key.data.toList.length) 0++l.drop (o+8):=by
  have h1:l.drop o=List.replicate 8 0++l.drop (o+8):=by rw [←List.drop_drop,←hz,List.take_append_drop]
  rw [←List.drop_drop,h1,List.drop_append_of_le_length (by simpa using hk),List.drop_replicate]
 unfold zW
 rw [e1,yc _ hk,keyBytes]
 simp
theorem gD(l:List UInt8)(o:Nat)(e:En)(he:e.Ok)(hz:(l.drop o).take 8=List.replicate 8 0)(ho:o+18≤l.length):
 zW (zW (zW l o e.pl.key.data.toList) (o+8) (bytesOf 8 e.pl.num.toNat)) (o+16) (bytesOf 2 e.at_)=zW l o (zE e):=by
 have h1:=yc _ he.key
 have h2:=zw 8 e.pl.num.toNat
 have h3:=zw 2 e.at_
 have a1:=kE l o (keyBytes e.pl.key) (bytesOf 8 e.pl.num.toNat) (by omega)
 have a2:=kE l o (keyBytes e.pl.key++bytesOf 8 e.pl.num.toNat) (bytesOf 2 e.at_) (by rw [List.length_append];omega)
 rw [h1] at a1
 rw [List.length_append,h1,h2] at a2
 rw [Q1 l o e.pl.key he.key hz (by omega),a1,show o+16=o+(8+8) from by omega,a2]
 rfl
theorem ZI(l:List UInt8)(o:Nat)(e:En)(he:e.Ok)(ho:o+20≤l.length):zW (zW l o (zE e)) (o+18) (bytesOf 2 (z9 e))=zW l o (xv e):=by
 have h1:=ys he
 have h2:=zw 2 (z9 e)
 have a1:=kE l o (zE e) (bytesOf 2 (z9 e)) (by omega)
 rw [h1] at a1
 exact a1
section
attribute [local go_sem ↓] Xm
theorem jZ(w:World)(b:Nat)(t:TypeId)(l:List UInt8)(h:qJ w b t l)(o cap:Nat)(ho:o+18≤l.length)(hcap:18≤cap)(e:En)(he:e.Ok)(hz:(l.drop o).take 8=List.replicate 8 0):
 Calls Tryz.prog 193 #[.int .u8 4,.slice (some ⟨b,o,none⟩) 18 cap,.agg #[.string e.pl.key,.int .i64 e.pl.num,.bool e.mark,.int .i64 (e.size:Int),.int .i64 (e.at_:Int)]] w fun r w'=>r=.returned (.tuple #[])∧qJ w' b t (zW l o (zE e))∧za (fun i=>i=b) w w':=by
 obtain⟨m,hm⟩:∃m:Nat,e.pl.num=m:=⟨e.pl.num.toNat,by have:=he.num0;omega⟩
 have HOV:Hid _:=gD l o e he hz ho
 have hmt:e.pl.num.toNat=m:=by omega
 rw [hmt] at HOV
 have hm1:m<9223372036854775808:=by have:=he.num1;omega
 have hat:=he.at_
 have hk8:e.pl.key.size≤8:=by have:=he.key;simpa using this
 have hbl:=h.lt
 have HBX:Hid ((w.alloc (.cells #[.string e.pl.key,.int .i64 (m:Int),.bool e.mark,.int .i64 (e.size:Int),.int .i64 (e.at_:Int)] 109)).heap[w.heap.size]? =some (.cells #[.string e.pl.key,.int .i64 (m:Int),.bool e.mark,.int .i64 (e.size:Int),.int .i64 (e.at_:Int)] 109 (0,0))):=heap_alloc_new w _
 have HK0:Hid (za (fun _=>False) w (w.alloc (.cells #[.string e.pl.key,.int .i64 (m:Int),.bool e.mark,.int .i64 (e.size:Int),.int .i64 (e.at_:Int)] 109))):=za.alloc _ _ _
 have HH:Hid _:=h
 rw [hm]
 have hc8:(8:Int)≤(cap:Int):=by omega
 have hn8:¬cap=8:=by omega
 have hn16:¬cap=16:=by omega
 have hc16:(16:Int)≤(cap:Int):=by omega
 have hc18:(18:Int)≤(cap:Int):=by omega
 have HL1:Hid ((zW l o e.pl.key.data.toList).length=l.length):=yR _ _ _ (by have:=he.key;omega)
 clear h hz he
 go_enter Tryz.func193,Tryz.ntmps193
 go_wp2
 have hs0:(w.alloc (.cells #[.string e.pl.key,.int .i64 (m:Int),.bool e.mark,.int .i64 (e.size:Int),.int .i64 (e.at_:Int)] 109)).heap.size=w.heap.size+1:=by simp
 have HB0:Hid (qJ (w.alloc (.cells #[.string e.pl.key,.int .i64 (m:Int),.bool e.mark,.int .i64 (e.size:Int),.int .i64 (e.at_:Int)] 109)) b t l):=HH.out.kept HK0.out (fun hf=>hf)
 generalize (w.alloc (.cells #[.string e.pl.key,.int .i64 (m:Int),.bool e.mark,.int .i64 (e.size:Int),.int .i64 (e.at_:Int)] 109))=W at*
 have hx0:W.cell? ⟨w.heap.size,0,none⟩=some (.string e.pl.key):=cR HBX.out rfl
 obtain⟨w1,hrun,hb1,hk1⟩:=cS W.drew b t l (HB0.out.kept (za.drew (fun _=>False) W) (fun hf=>hf)) o cap (by omega) e.pl.key hk8
 have HB1:Hid _:=hb1
 have HK1:Hid (za (fun i=>i=b) W.drew w1):=hk1
 have hbx1:w1.heap[w.heap.size]? =_:=(hk1.block w.heap.size (by show w.heap.size<W.heap.size;omega) (by omega)).trans HBX.out
 have HBX1:Hid _:=hbx1
 have hx1:w1.cell? ⟨w.heap.size,1,none⟩=some (.int .i64 (m:Int)):=cR hbx1 rfl
 clear hb1 hk1 hbx1
 have hx10:w1.cell? ⟨w.heap.size,0,none⟩=some (.string e.pl.key):=cR HBX1.out rfl
 go_region_held3 (fun w'=>w'.cell? ⟨w.heap.size,0,none⟩=some (.string e.pl.key)) (go_keep) (fail)
 have hwl1:w.heap.size<w1.heap.size:=(lT HBX1.out)
 go_wp2
 go_region_held3 (fun w'=>w'.cell? ⟨w.heap.size,1,none⟩=some (.int .i64 (m:Int))) (go_keep) ((go_at_call 138;refine(qc _ b t _ (by exact HB1.out.kept (za.drew (fun _=>False) w1) (fun hf=>hf)) (o+8) 8 (cap-8) (by rw [HL1.out];omega) (by omega) m hm1).mono ?_;rintro r w2 ⟨rfl,hb2,hk2⟩;have HB2:Hid _:=hb2;have HK2:Hid (za (fun i=>i=b) w1.drew w2):=hk2;have hbx2:w2.heap[w.heap.size]? =_:=(hk2.block w.heap.size hwl1 (by omega)).trans HBX1.out;have HBX2:Hid _:=hbx2;have hx2:w2.cell? ⟨w.heap.size,1,none⟩=some (.int .i64 (m:Int)):=(cR hbx2 rfl);clear hb2 hk2 hbx2))
 have hwl2:w.heap.size<w2.heap.size:=(lT HBX2.out)
 have hx24:w2.cell? ⟨w.heap.size,4,none⟩=some (.int .i64 (e.at_:Int)):=cR HBX2.out rfl
 have HL2:Hid ((zW (zW l o e.pl.key.data.toList) (o+8) (bytesOf 8 m)).length=l.length):=(yR _ _ _ (by rw [HL1.out,zw];omega)).trans HL1.out
 go_wp2
 go_region_held3 (fun w'=>w'.cell? ⟨w.heap.size,4,none⟩=some (.int .i64 (e.at_:Int))) (go_keep) ((go_at_call 138;refine(qc _ b t _ (by exact HB2.out.kept (za.drew (fun _=>False) w2) (fun hf=>hf)) (o+16) 2 (cap-16) (by rw [HL2.out];omega) (by omega) e.at_ (by omega)).mono ?_;rintro r w3 ⟨rfl,hb3,hk3⟩;have HB3:Hid _:=hb3;have HK3:Hid (za (fun i=>i=b) w2.drew w3):=hk3;have hbx3:w3.heap[w.heap.size]? =_:=(hk3.block w.heap.size hwl2 (by omega)).trans HBX2.out;have HBX3:Hid _:=hbx3;have hx34:w3.cell? ⟨w.heap.size,4,none⟩=some (.int .i64 (e.at_:Int)):=(cR hbx3 rfl);clear hb3 hk3 hbx3))
 have hx32:w3.cell? ⟨w.heap.size,2,none⟩=some (.bool e.mark):=cR HBX3.out rfl
 have hx33:w3.cell? ⟨w.heap.size,3,none⟩=some (.int .i64 (e.size:Int)):=cR HBX3.out rfl
 have HFB:Hid (qJ w3 b t (zW l o (zE e))):=by have:=HB3.out;rw [HOV.out] at this;exact this
 have HFK:Hid (za (fun i=>i=b) w w3):=(((HK0.out.mono fE).trans (za.trans (b:=W.drew) (za.drew _ W) HK1.out iL) iL).trans (za.trans (b:=w1.drew) (za.drew _ w1) HK2.out iL) iL).trans (za.trans (b:=w2.drew) (za.drew _ w2) HK3.out iL) iL
 go_wp2
 all_goals
  go_end0
  exact⟨rfl,HFB.out,HFK.out⟩
theorem vC(w:World)(b:Nat)(t:TypeId)(l:List UInt8)(h:qJ w b t l)(o cap:Nat)(ho:o+20≤l.length)(hcap:20≤cap)(e:En)(he:e.Ok)(hz:(l.drop o).take 8=List.replicate 8 0):
 Calls Tryz.prog 193 #[.int .u8 5,.slice (some ⟨b,o,none⟩) 20 cap,.agg #[.string e.pl.key,.int .i64 e.pl.num,.bool e.mark,.int .i64 (e.size:Int),.int .i64 (e.at_:Int)]] w fun r w'=>r=.returned (.tuple #[])∧qJ w' b t (zW l o (xv e))∧za (fun i=>i=b) w w':=by
 obtain⟨m,hm⟩:∃m:Nat,e.pl.num=m:=⟨e.pl.num.toNat,by have:=he.num0;omega⟩
 have HLF:Hid _:=ZI l o e he ho
 have HBL:Hid ((zE e).length=18):=ys he
 have hsz:=he.size
 have HOV:Hid _:=gD l o e he hz (by omega)
 have hmt:e.pl.num.toNat=m:=by omega
 rw [hmt] at HOV
 have hm1:m<9223372036854775808:=by have:=he.num1;omega
 have hat:=he.at_
 have hk8:e.pl.key.size≤8:=by have:=he.key;simpa using this
 have hbl:=h.lt
 have HBX:Hid ((w.alloc (.cells #[.string e.pl.key,.int .i64 (m:Int),.bool e.mark,.int .i64 (e.size:Int),.int .i64 (e.at_:Int)] 109)).heap[w.heap.size]? =some (.cells #[.string e.pl.key,.int .i64 (m:Int),.bool e.mark,.int .i64 (e.size:Int),.int .i64 (e.at_:Int)] 109 (0,0))):=heap_alloc_new w _
 have HK0:Hid (za (fun _=>False) w (w.alloc (.cells #[.string e.pl.key,.int .i64 (m:Int),.bool e.mark,.int .i64 (e.size:Int),.int .i64 (e.at_:Int)] 109))):=za.alloc _ _ _
 have HH:Hid _:=h
 rw [hm]
 have hc8:(8:Int)≤(cap:Int):=by omega
 have hn8:¬cap=8:=by omega
 have hn16:¬cap=16:=by omega
 have hn18:¬cap=18:=by omega
 have hc16:(16:Int)≤(cap:Int):=by omega
 have hc18:(18:Int)≤(cap:Int):=by omega
 have HL1:Hid ((zW l o e.pl.key.data.toList).length=l.length):=yR _ _ _ (by have:=he.key;omega)
 clear h hz he
 go_enter Tryz.func193,Tryz.ntmps193
 go_wp2
 have hs0:(w.alloc (.cells #[.string e.pl.key,.int .i64 (m:Int),.bool e.mark,.int .i64 (e.size:Int),.int .i64 (e.at_:Int)] 109)).heap.size=w.heap.size+1:=by simp
 have HB0:Hid (qJ (w.alloc (.cells #[.string e.pl.key,.int .i64 (m:Int),.bool e.mark,.int .i64 (e.size:Int),.int .i64 (e.at_:Int)] 109)) b t l):=HH.out.kept HK0.out (fun hf=>hf)
 generalize (w.alloc (.cells #[.string e.pl.key,.int .i64 (m:Int),.bool e.mark,.int .i64 (e.size:Int),.int .i64 (e.at_:Int)] 109))=W at*
 have hx0:W.cell? ⟨w.heap.size,0,none⟩=some (.string e.pl.key):=cR HBX.out rfl
 obtain⟨w1,hrun,hb1,hk1⟩:=cS W.drew b t l (HB0.out.kept (za.drew (fun _=>False) W) (fun hf=>hf)) o cap (by omega) e.pl.key hk8
 have HB1:Hid _:=hb1
 have HK1:Hid (za (fun i=>i=b) W.drew w1):=hk1
 have hbx1:w1.heap[w.heap.size]? =_:=(hk1.block w.heap.size (by show w.heap.size<W.heap.size;omega) (by omega)).trans HBX.out
 have HBX1:Hid _:=hbx1
 have hx1:w1.cell? ⟨w.heap.size,1,none⟩=some (.int .i64 (m:Int)):=cR hbx1 rfl
 clear hb1 hk1 hbx1
 have hx10:w1.cell? ⟨w.heap.size,0,none⟩=some (.string e.pl.key):=cR HBX1.out rfl
 go_region_held3 (fun w'=>w'.cell? ⟨w.heap.size,0,none⟩=some (.string e.pl.key)) (go_keep) (fail)
 have hwl1:w.heap.size<w1.heap.size:=(lT HBX1.out)
 go_wp2
 go_region_held3 (fun w'=>w'.cell? ⟨w.heap.size,1,none⟩=some (.int .i64 (m:Int))) (go_keep) ((go_at_call 138;refine(qc _ b t _ (by exact HB1.out.kept (za.drew (fun _=>False) w1) (fun hf=>hf)) (o+8) 8 (cap-8) (by rw [HL1.out];omega) (by omega) m hm1).mono ?_;rintro r w2 ⟨rfl,hb2,hk2⟩;have HB2:Hid _:=hb2;have HK2:Hid (za (fun i=>i=b) w1.drew w2):=hk2;have hbx2:w2.heap[w.heap.size]? =_:=(hk2.block w.heap.size hwl1 (by omega)).trans HBX1.out;have HBX2:Hid _:=hbx2;have hx2:w2.cell? ⟨w.heap.size,1,none⟩=some (.int .i64 (m:Int)):=(cR hbx2 rfl);clear hb2 hk2 hbx2))
 have hwl2:w.heap.size<w2.heap.size:=(lT HBX2.out)
 have hx24:w2.cell? ⟨w.heap.size,4,none⟩=some (.int .i64 (e.at_:Int)):=cR HBX2.out rfl
 have HL2:Hid ((zW (zW l o e.pl.key.data.toList) (o+8) (bytesOf 8 m)).length=l.length):=(yR _ _ _ (by rw [HL1.out,zw];omega)).trans HL1.out
 go_wp2
 go_region_held3 (fun w'=>w'.cell? ⟨w.heap.size,4,none⟩=some (.int .i64 (e.at_:Int))) (go_keep) ((go_at_call 138;refine(qc _ b t _ (by exact HB2.out.kept (za.drew (fun _=>False) w2) (fun hf=>hf)) (o+16) 2 (cap-16) (by rw [HL2.out];omega) (by omega) e.at_ (by omega)).mono ?_;rintro r w3 ⟨rfl,hb3,hk3⟩;have HB3:Hid _:=hb3;have HK3:Hid (za (fun i=>i=b) w2.drew w3):=hk3;have hbx3:w3.heap[w.heap.size]? =_:=(hk3.block w.heap.size hwl2 (by omega)).trans HBX2.out;have HBX3:Hid _:=hbx3;have hx34:w3.cell? ⟨w.heap.size,4,none⟩=some (.int .i64 (e.at_:Int)):=(cR hbx3 rfl);clear hb3 hk3 hbx3))
 have hx32:w3.cell? ⟨w.heap.size,2,none⟩=some (.bool e.mark):=cR HBX3.out rfl
 have hx33:w3.cell? ⟨w.heap.size,3,none⟩=some (.int .i64 (e.size:Int)):=cR HBX3.out rfl
 have HFB:Hid (qJ w3 b t (zW l o (zE e))):=by have:=HB3.out;rw [HOV.out] at this;exact this
 have HFK:Hid (za (fun i=>i=b) w w3):=(((HK0.out.mono fE).trans (za.trans (b:=W.drew) (za.drew _ W) HK1.out iL) iL).trans (za.trans (b:=w1.drew) (za.drew _ w1) HK2.out iL) iL).trans (za.trans (b:=w2.drew) (za.drew _ w2) HK3.out iL) iL
 have HL3:Hid ((zW l o (zE e)).length=l.length):=yR _ _ _ (by rw [HBL.out];omega)
 cases hmk:e.mark with
 |false=>
  rw [hmk] at hx32
  have HSZ:Hid (z9 e=e.size):=by show z9 e=_;unfold z9;rw [hmk];rfl
  go_wp2_with (go_at_call 138;refine(qc _ b t _ HFB.out (o+18) 2 (cap-18) (by rw [HL3.out];omega) (by omega) e.size (by omega)).mono ?_;rintro r w4 ⟨rfl,hb4,hk4⟩;have HB4:Hid _:=hb4;have HK4:Hid _:=hk4;clear hb4 hk4)
  go_end0
  refine⟨rfl,?_,HFK.out.trans HK4.out iL⟩
  have h4:=HB4.out
  have hlf:=HLF.out
  rw [HSZ.out] at hlf
  rw [hlf] at h4
  exact h4
 |true=>
  rw [hmk] at hx32
  have HSZ:Hid (z9 e=65535):=by show z9 e=_;unfold z9;rw [hmk];rfl
  go_wp2_with (go_at_call 138;refine(qc _ b t _ HFB.out (o+18) 2 (cap-18) (by rw [HL3.out];omega) (by omega) 65535 (by omega)).mono ?_;rintro r w4 ⟨rfl,hb4,hk4⟩;have HB4:Hid _:=hb4;have HK4:Hid _:=hk4;clear hb4 hk4)
  go_end0
  refine⟨rfl,?_,HFK.out.trans HK4.out iL⟩
  have h4:=HB4.out
  have hlf:=HLF.out
  rw [HSZ.out] at hlf
  rw [hlf] at h4
  exact h4
end
structure Ck where
 ws:List (Nat×List Value)
 full:Bool
structure zZ (w:World) (bc bd:Nat) (T:Nat→Prop) (C:Ck) (a:Option Addr) (cap:Nat):Prop where
 ok:∀p∈C.ws,zB p.2
 head:w.heap[bc]? =some (.cells #[.pointer (some ⟨bd,0,none⟩),.slice a C.ws.length cap,.bool C.full] 197 (0,0))
 row:w.ownsRow 0 160 129 (.slice a C.ws.length cap) C.ws.length (C.ws.map qk).flatten
 own:∀k,T k↔(k=bc∨(Value.slice a C.ws.length cap).ownBlock=some k)
 ap:(Value.slice a C.ws.length cap).ownBlock≠some bc
 few:C.ws.length≤1000
theorem zZ.bcT{w:World}{bc bd:Nat}{T:Nat→Prop}{C:Ck}{a:Option Addr}{cap:Nat}(h:zZ w bc bd T C a cap):T bc:=(h.own bc).2 (.inl rfl)
theorem zZ.lt{w:World}{bc bd:Nat}{T:Nat→Prop}{C:Ck}{a:Option Addr}{cap:Nat}(h:zZ w bc bd T C a cap):∀k,T k→k<w.heap.size:=fun k hk=>by
 rcases (h.own k).1 hk with rfl|h1
 ·exact(lT h.head)
 ·exact(h.row.lt k h1).2
theorem zZ.kept{w w':World}{bc bd:Nat}{T X:Nat→Prop}{C:Ck}{a:Option Addr}{cap:Nat}(h:zZ w bc bd T C a cap)(k:za X w w')(hn:∀i,T i→¬X i):zZ w' bc bd T C a cap:=by
 refine⟨h.ok,?_,k.owns h.row (fun i hi=>hn i ((h.own i).2 (.inr hi))),h.own,h.ap,h.few⟩
 rw [k.block bc (h.lt bc h.bcT) (hn bc h.bcT)];exact h.head
theorem zZ.c0{w:World}{bc bd:Nat}{T:Nat→Prop}{C:Ck}{a:Option Addr}{cap:Nat}(h:zZ w bc bd T C a cap):w.cell? ⟨bc,0,none⟩=some (.pointer (some ⟨bd,0,none⟩)):=cR h.head rfl
theorem zZ.c1{w:World}{bc bd:Nat}{T:Nat→Prop}{C:Ck}{a:Option Addr}{cap:Nat}(h:zZ w bc bd T C a cap):w.cell? ⟨bc,1,none⟩=some (.slice a C.ws.length cap):=cR h.head rfl
theorem zZ.c2{w:World}{bc bd:Nat}{T:Nat→Prop}{C:Ck}{a:Option Addr}{cap:Nat}(h:zZ w bc bd T C a cap):w.cell? ⟨bc,2,none⟩=some (.bool C.full):=cR h.head rfl
theorem zZ.fz{w:World}{bc bd:Nat}{T:Nat→Prop}{C:Ck}{a:Option Addr}{cap:Nat}(h:zZ w bc bd T C a cap)(i:Nat):w.frozen? ⟨bc,i,none⟩=false:=frozen_of_row w bc i _ _ h.head
theorem zZ.rowAt{w:World}{bc bd:Nat}{T:Nat→Prop}{C:Ck}{a:Option Addr}{cap:Nat}(h:zZ w bc bd T C a cap)(hn:0<C.ws.length):∃g,a=some ⟨g,0,none⟩:=by
 rcases h.row.2 with⟨_,h1⟩|⟨g,cap',cur,hv,_⟩
 ·omega
 ·cases hv;exact⟨g,rfl⟩
theorem zZ.wlen{w:World}{bc bd:Nat}{T:Nat→Prop}{C:Ck}{a:Option Addr}{cap:Nat}(h:zZ w bc bd T C a cap):∀b∈C.ws.map qk,b.length=129:=fun b hb=>by
 obtain⟨p,hp,rfl⟩:=List.mem_map.1 hb
 simp [qk,(h.ok p hp).1]
theorem zZ.range{w:World}{bc bd:Nat}{T:Nat→Prop}{C:Ck}{g cap:Nat}(h:zZ w bc bd T C (some ⟨g,0,none⟩) cap)(i:Nat)(hi:i<C.ws.length):w.rangeAt g (i*129) (.int .i64 (C.ws[i].1:Int)::C.ws[i].2):=by
 have hp:=h.row
 rw [show C.ws.length=(C.ws.map qk).length from by simp] at hp
 have:=qI hp h.wlen i (by simpa using hi)
 simpa [qk] using this
def Chg(w:World)(bc bd:Nat)(T:Nat→Prop)(C:Ck):Prop:=∃a cap,zZ w bc bd T C a cap
theorem Chg.kept{w w':World}{bc bd:Nat}{T X:Nat→Prop}{C:Ck}(h:Chg w bc bd T C)(k:za X w w')(hn:∀i,T i→¬X i):Chg w' bc bd T C:=by
 obtain⟨a,cap,h⟩:=h;exact⟨a,cap,h.kept k hn⟩
theorem Chg.lt{w:World}{bc bd:Nat}{T:Nat→Prop}{C:Ck}(h:Chg w bc bd T C):∀k,T k→k<w.heap.size:=by
 obtain⟨a,cap,h⟩:=h;exact h.lt
def qW(ws:List (Nat×List Value))(i:Int):Option Nat:=ws.findIdx? fun p=>decide ((p.1:Int)=i)
def XD:Option Nat→Int
 |some k=>k
 |none=> -1
theorem Tryz.infoCw:(Tryz.prog.info? 160).map (fun i=>(i.zero,i.size,i.bytes))=some (some (.agg qO.toArray),129,136):=by kernel_rfl
theorem ZJ{ws:List (Nat×List Value)}{i:Int}{k:Nat}(hk:k<ws.length)(h0:∀j (hj:j<ws.length),j<k→¬(ws[j].1:Int)=i)(h1:(ws[k].1:Int)=i):qW ws i=some k:=by
 unfold qW
 rw [List.findIdx?_eq_some_iff_getElem]
 exact⟨hk,by simpa using h1,fun j hj=>by simpa using h0 j (by omega) hj⟩
theorem Q5{ws:List (Nat×List Value)}{i:Int}(h0:∀j (hj:j<ws.length),¬(ws[j].1:Int)=i):qW ws i=none:=by
 unfold qW
 rw [List.findIdx?_eq_none_iff]
 intro p hp
 obtain⟨j,hj,rfl⟩:=List.getElem_of_mem hp
 simpa using h0 j hj
theorem x5(w:World)(bc bd:Nat)(T:Nat→Prop)(C:Ck)(a:Option Addr)(cap:Nat)(h:zZ w bc bd T C a cap)(i:Int):
 Calls Tryz.prog 172 #[.pointer (some ⟨bc,0,none⟩),.int .i64 i] w fun e w'=>e=.returned (.int .i64 (XD (qW C.ws i)))∧za (fun _=>False) w w':=by
 obtain⟨Zw,hZw,hzw⟩:∃Zw:List Value,Zw=qO∧∀w,(zeroValue 160).run Tryz.prog w=.ok (.agg Zw.toArray) w:=⟨qO,rfl,zM Tryz.infoCw⟩
 have HZw:Hid (Zw.length=129):=by rw [hZw];exact congrArg (· +1) zA.1
 clear hZw
 have HIw:Hid ((Tryz.prog.info? 160).map (·.size)=some 129):=zH Tryz.infoCw
 have hc1:=h.c1
 have hfew:=h.few
 have HH:Hid _:=h
 clear h
 go_enter Tryz.func172,Tryz.ntmps172
 go_wp2
 go_loopw [12] (fun t wr=>∃k:Nat,k≤C.ws.length∧t=.int .i64 k∧(∀j (hj:j<C.ws.length),j<k→¬(C.ws[j].1:Int)=i)∧za (fun _=>False) w wr) (fun t _=>C.ws.length-(intOf t).toNat)
 case atStart=>exact⟨0,Nat.zero_le _,rfl,fun _ _ h=>by omega,za.refl _ _⟩
 case round=>
  obtain⟨k,hk,rfl,h0,hkept⟩:=hrel
  have H0:Hid _:=h0
  have HK:Hid _:=hkept
  clear h0 hkept
  by_cases hlt:k<C.ws.length
  ·obtain⟨g,rfl⟩:=HH.out.rowAt (by omega)
   have HP:Hid (wr.rangeAt g (k*129) (.int .i64 (C.ws[k].1:Int)::C.ws[k].2)):=(HH.out.kept HK.out nF).range k hlt
   have HPO:Hid (zB C.ws[k].2):=HH.out.ok _ (List.getElem_mem hlt)
   have HX:Hid (∀j (hj:j<C.ws.length),j<k+1→¬(C.ws[k].1:Int)=i→¬(C.ws[j].1:Int)=i):=fun j hj hjk hne=>by
    by_cases e:j=k
    ·subst e;exact hne
    ·exact H0.out j hj (by omega)
   have HE:Hid ((C.ws[k].1:Int)=i→qW C.ws i=some k):=fun he=>ZJ hlt H0.out he
   generalize hq:C.ws[k]=q at*
   obtain⟨qi,qb⟩:=q
   clear hq
   simp only at HX HE
   have HKA:Hid (za (fun _=>False) w (wr.alloc (.cells (.int .i64 (qi:Int)::qb).toArray 160))):=HK.out.trans (za.alloc _ _ _) iL
   by_cases hqi:(qi:Int)=i
   ·have hq2:((qi:Int)==i)=true:=by simp [hqi]
    have HQ:Hid ((qi:Int)=i):=hqi
    clear hqi
    go_wp2_with (first
     |(show wpList _ _ _ ({dst:=some 16,op:=.load _ _,type:=_,pos:=_,after:=_,guard:=_}::_) _ _;refine wpList_load_mid rfl 160 (.tmp 15) rfl _ _ rfl (.int .i64 (qi:Int)::qb) _ HP.out Tryz.underlying160 rfl (by rw [List.length_cons,HPO.out.1];exact HIw.out) ?_)
     |(show wpList _ _ _ ({dst:=none,op:=.store _ _ _,type:=_,pos:=_,after:=_,guard:=_}::_) _ _;refine zk rfl 160 (.tmp 6) (.tmp 16) rfl _ _ (.int .i64 (qi:Int)::qb) rfl rfl rfl (by rw [List.length_cons,HPO.out.1];exact HIw.out) (by rw [List.length_cons,HPO.out.1];simpa using HZw.out) (List.forall_mem_cons.2 ⟨rfl,HPO.out.2⟩) ?_))
    go_ret
    exact⟨by rw [HE.out HQ.out];rfl,HKA.out⟩
   ·have hq2:((qi:Int)==i)=false:=by simpa using hqi
    have HQ:Hid (¬(qi:Int)=i):=hqi
    clear hqi
    go_wp2_with (first
     |(show wpList _ _ _ ({dst:=some 16,op:=.load _ _,type:=_,pos:=_,after:=_,guard:=_}::_) _ _;refine wpList_load_mid rfl 160 (.tmp 15) rfl _ _ rfl (.int .i64 (qi:Int)::qb) _ HP.out Tryz.underlying160 rfl (by rw [List.length_cons,HPO.out.1];exact HIw.out) ?_)
     |(show wpList _ _ _ ({dst:=none,op:=.store _ _ _,type:=_,pos:=_,after:=_,guard:=_}::_) _ _;refine zk rfl 160 (.tmp 6) (.tmp 16) rfl _ _ (.int .i64 (qi:Int)::qb) rfl rfl rfl (by rw [List.length_cons,HPO.out.1];exact HIw.out) (by rw [List.length_cons,HPO.out.1];simpa using HZw.out) (List.forall_mem_cons.2 ⟨rfl,HPO.out.2⟩) ?_))
    go_roundw
    case rel=>exact⟨k+1,by omega,by go_num,fun j hj hjk=>HX.out j hj hjk HQ.out,HKA.out⟩
    case measure=>simp [intOf];omega
  ·have HE:Hid (qW C.ws i=none):=Q5 (fun j hj=>H0.out j hj (by omega))
   go_wp2
   go_ret
   exact⟨by rw [HE.out];rfl,HK.out⟩
theorem dj(w:World)(bc bd:Nat)(T:Nat→Prop)(C:Ck)(h:Chg w bc bd T C):
 Calls Tryz.prog 139 #[.pointer (some ⟨bc,0,none⟩)] w fun e w'=>e=.returned (.bool (C.full||decide (18<C.ws.length)))∧w'=w:=by
 obtain⟨a,cap,h⟩:=h
 have hc1:=h.c1
 have hc2:=h.c2
 have hfew:=h.few
 clear h
 cases hf:C.full
 ·rw [hf] at hc2
  go_enter Tryz.func139,Tryz.ntmps139
  go_wp2
  go_ret
  exact⟨zc (by simp;omega),rfl⟩
 ·rw [hf] at hc2
  go_enter Tryz.func139,Tryz.ntmps139
  go_wp2
  go_ret
  exact⟨zc (by simp),rfl⟩
theorem ZK(w:World)(bd:Nat)(hbd:bd<w.heap.size):
 Calls Tryz.prog 73 #[.pointer (some ⟨bd,0,none⟩)] w fun e w'=>e=.returned (.pointer (some ⟨w.heap.size,0,none⟩))∧Chg w' w.heap.size bd (fun k=>k=w.heap.size) ⟨[],false⟩∧za (fun _=>False) w w':=by
 go_enter Tryz.func73,Tryz.ntmps73
 go_wp2
 go_ret
 refine⟨rfl,⟨none,0,fun p hp=>(nomatch hp),?_,World.ownsRow_nil _ 0 160 129,fun k=>by simp [Value.ownBlock],by simp [Value.ownBlock],by simp⟩,za.alloc _ _ _⟩
 exact heap_alloc_new w _
structure Cw (w:World) (bc bd:Nat) (S T:Nat→Prop) (D:Dk) (C:Ck):Prop where
 disk:zh w bd S D
 chg:Chg w bc bd T C
 apart:∀k,S k→¬T k
theorem Cw.kept{w w':World}{bc bd:Nat}{S T X:Nat→Prop}{D:Dk}{C:Ck}(h:Cw w bc bd S T D C)(k:za X w w')(hS:∀i,S i→¬X i)(hT:∀i,T i→¬X i):Cw w' bc bd S T D C:=⟨h.disk.kept k hS,h.chg.kept k hT,h.apart⟩
theorem Cw.kept0{w w':World}{bc bd:Nat}{S T:Nat→Prop}{D:Dk}{C:Ck}(h:Cw w bc bd S T D C)(k:za (fun _=>False) w w'):Cw w' bc bd S T D C:=h.kept k nF nF
def Ck.look(C:Ck)(D:Dk)(i:Int):List Value:=match qW C.ws i with
 |some k=>(C.ws.getD k (0,[])).2
 |none=>D.look i
theorem yH{C:Ck}{D:Dk}{i:Int}{k:Nat}(h:qW C.ws i=some k):∃hk:k<C.ws.length,C.look D i=C.ws[k].2∧(C.ws[k].1:Int)=i:=by
 have h':=h
 unfold qW at h'
 rw [List.findIdx?_eq_some_iff_getElem] at h'
 obtain⟨hk,h1,_⟩:=h'
 refine⟨hk,?_,by simpa using h1⟩
 unfold Ck.look
 rw [h]
 simp [hk]
theorem jn{C:Ck}{D:Dk}{i:Int}(h:qW C.ws i=none):C.look D i=D.look i:=by unfold Ck.look;rw [h]
theorem Dk.Ok.look{D:Dk}(h:D.Ok)(i:Int):zB (D.look i):=by
 unfold Dk.look
 split
 next hi=>
  refine gk ?_ (fun p hp=>(h.ps p hp).2)
  rw [List.getD_eq_getElem?_getD,List.getElem?_eq_getElem (by omega),Option.getD_some]
  exact h.bs _ (List.getElem_mem _)
 next=>exact zA
theorem jo(w:World)(bc bd:Nat)(S T:Nat→Prop)(D:Dk)(C:Ck)(h:Cw w bc bd S T D C)(i:Int)(hi:zF i)(hr0:0≤D.reads)(hr1:D.reads≤4611686018427387904):
 Calls Tryz.prog 192 #[.pointer (some ⟨bc,0,none⟩),.int .i64 i] w fun e w'=>e=.returned (.agg (C.look D i).toArray)∧(∃n:Int,0≤n∧n≤1∧Cw w' bc bd S T {D with reads:=D.reads+n} C)∧za (fun k=>k=bd) w w':=by
 obtain⟨Zb,hZb,hz⟩:∃Zb:List Value,Zb=zG∧∀w,(zeroValue 131).run Tryz.prog w=.ok (.agg Zb.toArray) w:=⟨zG,rfl,zM Tryz.infoBlock⟩
 have HZb:Hid (zB Zb):=by rw [hZb];exact zA
 clear hZb
 have HI:Hid ((Tryz.prog.info? 131).map (·.size)=some 128):=zH Tryz.infoBlock
 have HW:Hid _:=h
 obtain⟨a,cap,hch⟩:=h.chg
 have HC:Hid _:=hch
 have hbT:=hch.bcT
 have hbd:=h.disk.lt bd h.disk.bdS
 have hbc:=hch.lt bc hbT
 have hne:bd≠bc:=fun e=>h.apart bd h.disk.bdS (by rw [e];exact hbT)
 clear h hch
 have HK1:Hid (za (fun _=>False) w (w.alloc (.cells Zb.toArray 131))):=za.alloc _ _ _
 cases hx:qW C.ws i with
 |some k=>
  obtain⟨hk,hl,hki⟩:=yH (D:=D) hx
  have HL:Hid _:=hl
  have HX:Hid _:=hx
  obtain⟨g,rfl⟩:=HC.out.rowAt (by omega)
  have HOK:Hid (zB C.ws[k].2):=HC.out.ok _ (List.getElem_mem hk)
  clear hl hx
  have hk0:¬(k:Int)<0:=by omega
  have hkk:(k:Int)<(C.ws.length:Int):=by omega
  have HR:Hid (∀w1,za (fun _=>False) w w1→w1.rangeAt g (k*129+1) C.ws[k].2):=fun w1 hk1 j v hv=>by
   have:=(HC.out.kept hk1 nF).range k hk (j+1) v (by simpa using hv)
   rw [Nat.add_assoc,Nat.add_comm 1 j];exact this
  generalize C.ws[k].2=qb at*
  go_enter Tryz.func192,Tryz.ntmps192
  go_wp2_with (first
   |(go_at_call 172;refine(x5 _ bc bd T C _ cap (HC.out.kept HK1.out nF) i).mono ?_;rintro e w1 ⟨rfl,hk1⟩;rw [HX.out];unfold XD;have HK2:Hid _:=hk1;have hc1:=((HC.out.kept HK1.out nF).kept hk1 nF).c1;have HB:Hid (w1.heap[w.heap.size]? =some (.cells Zb.toArray 131 (0,0))):=(hk1.block w.heap.size (by simp) (fun hf=>hf)).trans (heap_alloc_new w _);have HRR:Hid _:=HR.out w1 (HK1.out.trans hk1 iL);clear hk1)
   |(show wpList _ _ _ ({dst:=some 18,op:=.load _ _,type:=_,pos:=_,after:=_,guard:=_}::_) _ _;refine wpList_load_mid rfl 131 (.tmp 17) rfl _ _ rfl qb _ HRR.out Tryz.underlying131 rfl (by rw [HOK.out.1];exact HI.out) ?_)
   |(show wpList _ _ _ ({dst:=none,op:=.store _ _ _,type:=_,pos:=_,after:=_,guard:=_}::_) _ _;refine wpList_store_mid rfl 131 (.tmp 4) (.tmp 18) rfl _ _ _ rfl rfl (by have:=ql HB.out;rw [HZb.out.1] at this;simpa [HOK.out.1] using this) (by rw [List.size_toArray,HOK.out.1];exact HI.out) (all_oneCell_toArray HOK.out.2) ?_))
  have hb:=zV w.heap.size 131 qb 0 w1 _ HB.out (by simp [HZb.out.1,HOK.out.1])
  have hks:=za.setCells (S:=fun k=>k=w.heap.size) w.heap.size rfl qb 0 w1
  have hkf:za (fun _=>False) w (w1.setCells w.heap.size 0 qb):=(HK1.out.trans HK2.out iL).trans hks (fun j hj=>.inr (by rw [hj];exact Nat.le_refl _))
  have hb2:(w1.setCells w.heap.size 0 qb).heap[w.heap.size]? =some (.cells qb.toArray 131 (0,0)):=by
   rw [hb];congr 3;rw [List.take_zero,List.nil_append,List.drop_of_length_le (by simp [HZb.out.1,HOK.out.1]),List.append_nil]
  refine bodyPost_ret (v:=.agg qb.toArray) (results_cell_row Tryz.results192 _ _ w.heap.size 131 _ (0,0) _ rfl hb2 Tryz.underlying131 rfl (by rw [List.size_toArray,HOK.out.1];exact HI.out)) rfl ⟨by rw [HL.out],⟨0,by omega,by omega,?_⟩,hkf.mono fE⟩
  have:=HW.out.kept0 hkf
  simpa using this
 |none=>
  have HX:Hid _:=hx
  have HL:Hid _:=jn (D:=D) hx
  have HOK:Hid (zB (D.look i)):=Dk.Ok.look HW.out.disk.ok i
  clear hx
  generalize hq:D.look i=qb at*
  have HQ:Hid (D.look i=qb):=hq
  clear hq
  go_enter Tryz.func192,Tryz.ntmps192
  go_wp2_with (first
   |(go_at_call 172;refine(x5 _ bc bd T C _ cap (HC.out.kept HK1.out nF) i).mono ?_;rintro e w1 ⟨rfl,hk1⟩;rw [HX.out];unfold XD;have HK2:Hid _:=hk1;have hc0:=((HC.out.kept HK1.out nF).kept hk1 nF).c0;have HB:Hid (w1.heap[w.heap.size]? =some (.cells Zb.toArray 131 (0,0))):=(hk1.block w.heap.size (by simp) (fun hf=>hf)).trans (heap_alloc_new w _);clear hk1)
   |(go_at_call 81;refine(x6 _ bd S D ((HW.out.kept0 HK1.out).kept0 HK2.out).disk i hi hr0 hr1).mono ?_;rintro e w2 ⟨rfl,hd2,hk2⟩;rw [HQ.out];have HD2:Hid (zh w2 bd S {D with reads:=D.reads+1 }):=hd2;have HK3:Hid _:=hk2;have HB2:Hid (w2.heap[w.heap.size]? =some (.cells Zb.toArray 131 (0,0))):=(hk2.block w.heap.size (lT HB.out) (by omega)).trans HB.out;clear hd2 hk2)
   |(show wpList _ _ _ ({dst:=none,op:=.store _ _ _,type:=_,pos:=_,after:=_,guard:=_}::_) _ _;refine wpList_store_mid rfl 131 (.tmp 4) (.tmp 24) rfl _ _ _ rfl rfl (by have:=ql HB2.out;rw [HZb.out.1] at this;simpa [HOK.out.1] using this) (by rw [List.size_toArray,HOK.out.1];exact HI.out) (all_oneCell_toArray HOK.out.2) ?_))
  have hb:=zV w.heap.size 131 qb 0 w2 _ HB2.out (by simp [HZb.out.1,HOK.out.1])
  have hks:=za.setCells (S:=fun k=>k=w.heap.size) w.heap.size rfl qb 0 w2
  have hk12:za (fun k=>k=bd) w w2:=((HK1.out.trans HK2.out iL).mono fE).trans HK3.out iL
  have hkf:za (fun k=>k=bd) w (w2.setCells w.heap.size 0 qb):=hk12.trans hks (fun j hj=>.inr (by rw [hj];exact Nat.le_refl _))
  have hb2:(w2.setCells w.heap.size 0 qb).heap[w.heap.size]? =some (.cells qb.toArray 131 (0,0)):=by
   rw [hb];congr 3;rw [List.take_zero,List.nil_append,List.drop_of_length_le (by simp [HZb.out.1,HOK.out.1]),List.append_nil]
  have hS1:∀k,S k→k<w.heap.size:=HW.out.disk.lt
  refine bodyPost_ret (v:=.agg qb.toArray) (results_cell_row Tryz.results192 _ _ w.heap.size 131 _ (0,0) _ rfl hb2 Tryz.underlying131 rfl (by rw [List.size_toArray,HOK.out.1];exact HI.out)) rfl ⟨by rw [HL.out],⟨1,by omega,by omega,⟨HD2.out.kept hks (fun k hk e=>by have:=hS1 k hk;omega),HW.out.chg.kept hkf (fun k hk e=>HW.out.apart bd HW.out.disk.bdS (by rw [←e];exact hk)),HW.out.apart⟩⟩,hkf⟩
def Ck.put(C:Ck)(i:Nat)(b:List Value):Ck:=match qW C.ws i with
 |some k=>{C with ws:=C.ws.set k (i,b)}
 |none=>{C with ws:=C.ws++[(i,b)]}
theorem fj(w:World)(n:Int)(b:List Value)(h:b.length=128):
 (Instr.build 160 #[(0,.int .i64 n),(1,.agg b.toArray)]).run Tryz.prog w=.ok (.agg (.int .i64 n::b).toArray) w:=by
 have hz:=zM Tryz.infoCw w
 have hzl:qO.length=129:=congrArg (· +1) zA.1
 have h1:∀w,(sizeOf 3).run Tryz.prog w=.ok 1 w:=yq fJ
 have h2:∀w,(sizeOf 131).run Tryz.prog w=.ok 128 w:=yq (zH Tryz.infoBlock)
 generalize hZW:qO=ZW at*
 have hne:¬ZW=[]:=fun e=>by rw [e] at hzl;simp at hzl
 have f2:=kw 1 b (ZW.set 0 (.int .i64 n)).toArray (by simp [h,hzl])
 have hl:¬(¬b.length=128∨ZW.length<1+b.length):=by omega
 simp only [Instr.build,Sem.run_bind,hz,Result.andThen_ok,run_underlying Tryz.underlying160 w]
 simp [h1,h2,Value.cells,Instr.fill]
 rw [if_neg hne,if_neg hl,f2]
 simp only [Sem.run_pure]
 congr 2
 apply Array.ext'
 cases ZW with
 |nil=>exact absurd rfl hne
 |cons z Z=>simp [h];simp at hzl;omega
theorem fk(w:World)(cs:List Value)(h:cs.length=129):
 (Instr.buildSlice 156 1 #[(0,.agg cs.toArray)]).run Tryz.prog w=.ok (.slice (some ⟨w.heap.size,0,none⟩) 1 1) (w.alloc (.cells cs.toArray 160)):=by
 have hz:=zM Tryz.infoCw w
 have h2:∀w,(sizeOf 160).run Tryz.prog w=.ok 129 w:=yq (zH Tryz.infoCw)
 have hzl:qO.length=129:=congrArg (· +1) zA.1
 generalize hZW:qO=ZW at*
 have hl:¬(¬cs.length=129∨129<cs.length):=by omega
 simp only [Instr.buildSlice,Sem.run_bind,Result.andThen_ok,run_underlying Tryz.underlying156 w]
 first
  |(simp [h2,Value.cells,Instr.fill]
    rw [if_neg hl,jl cs _ (by simp [h])]
    simp [newRow]
    done)
  |(simp [h2,hz,Value.cells,Instr.fill,hzl]
    rw [if_neg hl,jl cs _ (by simp [h])]
    simp [newRow])
def Q6(parts:Array (Nat×Value)):Sem Value:=Instr.build 160 parts
theorem ZL(parts:Array (Nat×Value)):Instr.build 160 parts=Q6 parts:=rfl
theorem bO(w:World)(n:Int)(b:List Value)(h:b.length=128):(Q6 #[(0,.int .i64 n),(1,.agg b.toArray)]).run Tryz.prog w=.ok (.agg (.int .i64 n::b).toArray) w:=fj w n b h
def Q7(len:Nat)(parts:Array (Nat×Value)):Sem Value:=Instr.buildSlice 156 len parts
theorem ZM(len:Nat)(parts:Array (Nat×Value)):Instr.buildSlice 156 len parts=Q7 len parts:=rfl
theorem bQ(w:World)(c:Value)(cs:List Value)(h:cs.length=128):(Q7 1 #[(0,.agg (c::cs).toArray)]).run Tryz.prog w=.ok (.slice (some ⟨w.heap.size,0,none⟩) 1 1) (w.alloc (.cells (c::cs).toArray 160)):=
 fk w (c::cs) (by simp [h])
def vt(v:Value):Sem Value:=Instr.loadAt 154 v
theorem xz(v:Value):Instr.loadAt 154 v=vt v:=rfl
theorem yM(w:World)(b o:Nat)(cs:List Value)(hc:w.rangeAt b o cs)(h:cs.length=128):(vt (.pointer (some ⟨b,o,none⟩))).run Tryz.prog w=.ok (.agg cs.toArray) w:=
 run_loadAt_mid w b o 154 cs _ hc qS rfl (by rw [h];exact zH Tryz.infoPage)
theorem zZ.pushed{w w2:World}{bc bd:Nat}{T:Nat→Prop}{C:Ck}{a:Option Addr}{cap:Nat}(h:zZ w bc bd T C a cap)(hfew:C.ws.length<1000)(o:Obj)(i:Nat)(b:List Value)(hb:zB b)(g c2:Nat)
 (hown:w2.ownsRow 0 160 129 (.slice (some ⟨g,0,none⟩) (C.ws.length+1) c2) (C.ws.length+1) ((C.ws.map qk).flatten++.int .i64 (i:Int)::b))
 (hgrow:(w.alloc o).drew.grownBy w2 (Value.slice a C.ws.length cap).ownBlock) (hat:(Value.slice a C.ws.length cap).ownBlock=some g∨g=w.heap.size+1):
 zZ (w2.setCell ⟨bc,1,none⟩ (.slice (some ⟨g,0,none⟩) (C.ws.length+1) c2)) bc bd (fun k=>k=bc∨k=g) {C with ws:=C.ws++[(i,b)]} (some ⟨g,0,none⟩) c2∧
  (∀k,(k=bc∨k=g)→T k∨w.heap.size≤k)∧za T w (w2.setCell ⟨bc,1,none⟩ (.slice (some ⟨g,0,none⟩) (C.ws.length+1) c2)):=by
 have hbc:=h.lt bc h.bcT
 have hgb:g≠bc:=by
  rcases hat with e|e
  ·exact fun e2=>h.ap (by rw [e,e2])
  ·omega
 have hk2:za (fun k=>(Value.slice a C.ws.length cap).ownBlock=some k) (w.alloc o).drew w2:=za.grown hgrow (fun k hk=>hk)
 have hk:za (fun k=>(Value.slice a C.ws.length cap).ownBlock=some k) w w2:=((za.alloc _ w o).trans (za.drew _ _) iL).trans hk2 iL
 have hset:=za.setCell (S:=fun k=>k=bc) w2 ⟨bc,1,none⟩ (.slice (some ⟨g,0,none⟩) (C.ws.length+1) c2) rfl
 have hl:(C.ws++[(i,b)]).length=C.ws.length+1:=by simp
 refine⟨⟨?_,?_,?_,?_,?_,?_⟩,?_,?_⟩
 ·intro p hp
  rcases List.mem_append.1 hp with hp|hp
  ·exact h.ok p hp
  ·rw [List.mem_singleton.1 hp];exact hb
 ·simp only [hl]
  have e:w2.heap[bc]? =_:=(hk.block bc hbc (fun e=>h.ap e)).trans h.head
  rw [heap_setCell_same w2 bc 1 _ _ _ e];rfl
 ·simp only [hl]
  have:=hset.owns hown (fun k hk e=>by simp [Value.ownBlock] at hk;omega)
  simpa [qk] using this
 ·intro k;simp only [hl];simp [Value.ownBlock,eq_comm]
 ·simp [Value.ownBlock];exact hgb
 ·simp only [hl];omega
 ·intro k hk
  rcases hk with rfl|rfl
  ·exact .inl h.bcT
  ·rcases hat with e2|e2
   ·exact .inl ((h.own k).2 (.inr e2))
   ·right;omega
 ·refine(hk.mono (fun k hk=>(h.own k).2 (.inr hk))).trans hset (fun k hk=>.inl (by rw [hk];exact h.bcT))
theorem bR{w:World}{g j:Nat}{cur:Array Value}{t:TypeId}{v:Value}(hg:w.heap[g]? =some (.cells cur t (0,0)))(hv:cur[j]? =some v):w.setCell ⟨g,j,none⟩ v=w:=by
 have hh:(w.setCell ⟨g,j,none⟩ v).heap=w.heap:=by
  apply Array.ext_getElem?
  intro k
  by_cases e:k=g
  ·subst e
   rw [heap_setCell_same w k j _ _ _ hg,hg]
   congr 2
   apply Array.ext_getElem?
   intro m
   rw [Array.getElem?_setIfInBounds]
   split
   next e=>subst e;rw [hv,if_pos (lT hv)]
   next=>rfl
  ·exact heap_setCell_other w ⟨g,j,none⟩ k v e
 cases w
 simp only [World.setCell] at hh ⊢
 rw [hh]
theorem zZ.reset{w:World}{bc bd:Nat}{T:Nat→Prop}{C:Ck}{g cap:Nat}(h:zZ w bc bd T C (some ⟨g,0,none⟩) cap)(k:Nat)(hk:k<C.ws.length)(b:List Value)(hb:zB b):
 zZ (w.setCells g (k*129+1) b) bc bd T {C with ws:=C.ws.set k (C.ws[k].1,b)} (some ⟨g,0,none⟩) cap:=by
 have hbc:=h.lt bc h.bcT
 have hgb:bc≠g:=fun e=>h.ap (by rw [←e];rfl)
 have hl:(C.ws.set k (C.ws[k].1,b)).length=C.ws.length:=by simp
 refine⟨?_,?_,?_,by simp only [hl];exact h.own,by simp only [hl];exact h.ap,by simp only [hl];exact h.few⟩
 ·intro p hp
  rcases List.mem_or_eq_of_mem_set hp with hp|rfl
  ·exact h.ok p hp
  ·exact hb
 ·simp only [hl]
  rw [yh g bc hgb];exact h.head
 ·simp only [hl]
  have hrow:=h.row
  rw [show C.ws.length=(C.ws.map qk).length from by simp] at hrow
  have h2:=fB hrow h.wlen k (by simpa using hk) (.int .i64 (C.ws[k].1:Int)::b) (by simp [hb.1])
  have e1:(C.ws.map qk).set k (.int .i64 (C.ws[k].1:Int)::b)=(C.ws.set k (C.ws[k].1,b)).map qk:=by rw [List.map_set];rfl
  rw [e1] at h2
  have e2:(w.setCells g (k*129) (.int .i64 (C.ws[k].1:Int)::b))=w.setCells g (k*129+1) b:=by
   rw [World.setCells]
   congr 1
   have hc:w.cell? ⟨g,k*129,none⟩=some (.int .i64 (C.ws[k].1:Int)):=h.range k hk 0 _ rfl
   rcases h.row.2 with⟨h0,_⟩|⟨g',cap',cur,hv,_,hgg,_⟩
   ·cases h0
   ·cases hv
    refine bR hgg ?_
    rw [cell_of_row w g (k*129) _ _ _ hgg] at hc
    exact hc
  rw [e2] at h2
  simpa using h2
theorem yU{C:Ck}{i k:Nat}(b:List Value)(h:qW C.ws i=some k):∃hk:k<C.ws.length,C.put i b={C with ws:=C.ws.set k (C.ws[k].1,b)}:=by
 obtain⟨hk,_,h2⟩:=yH (D:=⟨[],[],0,0⟩) h
 have:C.ws[k].1=i:=by omega
 exact⟨hk,by unfold Ck.put;rw [h,this]⟩
theorem xd{C:Ck}{i:Nat}(b:List Value)(h:qW C.ws i=none):C.put i b={C with ws:=C.ws++[(i,b)]}:=by unfold Ck.put;rw [h]
section
attribute [local go_sem ↓] Go.wp_at_zero Go.wp_at_succ ZL ZM xz
attribute [local go_sem] bO bQ
theorem dl(w:World)(bc bd:Nat)(T:Nat→Prop)(C:Ck)(a:Option Addr)(cap:Nat)(h:zZ w bc bd T C a cap)(i:Nat)(b:List Value)(hb:zB b)(hfew:C.ws.length<1000)(hx:qW C.ws i=none):
 Calls Tryz.prog 135 #[.pointer (some ⟨bc,0,none⟩),.int .i64 i,.agg b.toArray] w fun e w'=>e=.returned (.tuple #[])∧(∃T',Chg w' bc bd T' (C.put i b)∧∀k,T' k→T k∨w.heap.size≤k)∧za T w w':=by
 obtain⟨hb1,hb2⟩:=hb
 have HX:Hid _:=hx
 have HC:Hid _:=h
 have hbc:=h.lt bc h.bcT
 have HK1:Hid (za (fun _=>False) w (w.alloc (.cells b.toArray 154))):=za.alloc _ _ _
 clear h hx
 obtain⟨i0,hi0,hz0,hz1,hz2⟩:=info_parts Tryz.infoCw
 have HI0:Hid (Tryz.prog.info? 160=some i0∧i0.zero=some (.agg qO.toArray)∧i0.size=129∧i0.bytes=136):=⟨hi0,hz0,hz1,hz2⟩
 clear hi0 hz0 hz1 hz2
 go_enter Tryz.func135,Tryz.ntmps135
 go_wp2_with (go_at_call 172;refine(x5 _ bc bd T C a cap (HC.out.kept HK1.out nF) i).mono ?_;rintro e w1 ⟨rfl,hk1⟩;rw [HX.out];unfold XD;have HK2:Hid _:=hk1;have HC1:Hid (zZ w1 bc bd T C a cap):=(HC.out.kept HK1.out nF).kept hk1 nF;have HB:Hid (w1.heap[w.heap.size]? =some (.cells b.toArray 154 (0,0))):=(hk1.block w.heap.size (by simp) (fun hf=>hf)).trans (heap_alloc_new w _);clear hk1)
 have hc1:=HC1.out.c1
 have hf1:=HC1.out.fz 1
 have hlt1:=HC1.out.lt bc HC1.out.bcT
 have hr1:(vt (.pointer (some ⟨w.heap.size,0,none⟩))).run Tryz.prog w1.drew=.ok (.agg b.toArray) w1.drew:=yM _ _ _ b (zJ (w:=w1.drew) HB.out) hb1
 have HOWN:Hid (((w1.alloc (.cells (.int .i64 (i:Int)::b).toArray 160)).drew).ownsRow 0 160 129 (.slice a C.ws.length cap) C.ws.length (C.ws.map qk).flatten):=HC1.out.row.alloc _
 go_region_law ((refine step_append_lies _ rfl (.tmp 24) (.tmp 28) 156 rfl 0 160 i0 _ 129 136 Tryz.underlying156 HI0.out.1 HI0.out.2.1 HI0.out.2.2.1 HI0.out.2.2.2 (congrArg (· +1) zA.1) (by omega) (.slice a C.ws.length cap) C.ws.length _ (by rfl) HOWN.out ⟨w1.heap.size,0,none⟩ 1 1 (.int .i64 (i:Int)::b) (by rfl) (by simp [hb1]) (World.news_of_block (w:=(w1.alloc (.cells (.int .i64 (i:Int)::b).toArray 160)).drew) (heap_alloc_new w1 _)) (List.forall_mem_cons.2 ⟨rfl,hb2⟩) (by omega) (by unfold maxLen;omega) (by omega) (Nat.zero_le _) (w1.heap.size+1) (by simp) ?_;intro g c2 w2 hown hgrow hat hlt2;have HP:Hid _:=zZ.pushed HC1.out hfew _ i b ⟨hb1,hb2⟩ g c2 hown hgrow hat;have hcc:w2.cell? ⟨bc,1,none⟩=some (.slice a C.ws.length cap):=(hgrow.cell_far ⟨bc,1,none⟩ (by simp;omega) (fun e=>HC1.out.ap e.symm)).trans (by simpa using HC1.out.kept (za.alloc (fun _=>False) w1 _) nF |>.c1);have hff:w2.frozen? ⟨bc,1,none⟩=false:=(hgrow.frozen_far ⟨bc,1,none⟩ (by simp;omega) (fun e=>HC1.out.ap e.symm)).trans (by simpa using HC1.out.kept (za.alloc (fun _=>False) w1 _) nF |>.fz 1);clear hown hgrow hat))
 all_goals
  go_wp2
  go_end0
  have hs1:w.heap.size+1≤w1.heap.size:=by have:=HK2.out.size;simpa using this
  have hk12:za (fun _=>False) w w1:=HK1.out.trans HK2.out iL
  refine⟨rfl,⟨_,⟨_,_,by rw [xd b HX.out];exact HP.out.1⟩,fun k hk=>?_⟩,(hk12.mono fE).trans HP.out.2.2 (fun k hk=>.inl hk)⟩
  rcases HP.out.2.1 k hk with h1|h1
  ·exact .inl h1
  ·right;omega
end
theorem bT(w:World)(bc bd:Nat)(T:Nat→Prop)(C:Ck)(g cap:Nat)(h:zZ w bc bd T C (some ⟨g,0,none⟩) cap)(i k:Nat)(b:List Value)(hb:zB b)(hx:qW C.ws i=some k):
 Calls Tryz.prog 135 #[.pointer (some ⟨bc,0,none⟩),.int .i64 i,.agg b.toArray] w fun e w'=>e=.returned (.tuple #[])∧Chg w' bc bd T (C.put i b)∧za T w w':=by
 obtain⟨hk,hput⟩:=yU b hx
 have HPUT:Hid _:=hput
 have HX:Hid _:=hx
 have HC:Hid _:=h
 have hbc:=h.lt bc h.bcT
 have HK1:Hid (za (fun _=>False) w (w.alloc (.cells b.toArray 154))):=za.alloc _ _ _
 have hqb:b.length=128:=hb.1
 have hqo:∀v∈b,v.oneCell'=true:=hb.2
 have HBO:Hid (zB b):=hb
 have hgT:T g:=(h.own g).2 (.inr rfl)
 have hne1:bc≠g:=fun e=>h.ap (by rw [←e];rfl)
 clear h hx hput hb
 have hkk:(k:Int)<(C.ws.length:Int):=by omega
 go_enter Tryz.func135,Tryz.ntmps135
 go_wp2_with (go_at_call 172;refine(x5 _ bc bd T C _ cap (HC.out.kept HK1.out nF) i).mono ?_;rintro e w1 ⟨rfl,hk1⟩;rw [HX.out];unfold XD;have HK2:Hid _:=hk1;have HC1:Hid (zZ w1 bc bd T C (some ⟨g,0,none⟩) cap):=(HC.out.kept HK1.out nF).kept hk1 nF;have HB:Hid (w1.heap[w.heap.size]? =some (.cells b.toArray 154 (0,0))):=(hk1.block w.heap.size (by simp) (fun hf=>hf)).trans (heap_alloc_new w _);clear hk1)
 have hc1:=HC1.out.c1
 have hth:w1.there g (k*129+1) 128:=fun j hj=>by
  have hr:=HC1.out.row
  rw [show C.ws.length=(C.ws.map qk).length from by simp] at hr
  have:=vN hr HC1.out.wlen k (by simpa using hk) (j+1) (by omega)
  rw [Nat.add_assoc,Nat.add_comm 1 j];exact this
 have hrw:w1.rangeAt w.heap.size 0 b:=zJ HB.out
 have hgl:g<w.heap.size:=HC.out.lt g hgT
 have hne2:w.heap.size≠g:=by omega
 have hu:=Tryz.underlying131
 have hu2:=qS
 have hsz:(Tryz.prog.info? 131).map (·.size)=some b.length:=by rw [hqb];exact zH Tryz.infoBlock
 have hsz2:(Tryz.prog.info? 154).map (·.size)=some b.length:=by rw [hqb];exact zH Tryz.infoPage
 go_region_held3 (fun w'=>w'.cell? ⟨bc,1,none⟩=some (.slice (some ⟨g,0,none⟩) C.ws.length cap)∧w'.rangeAt w.heap.size 0 b∧w'.there g (k*129+1) 128)
  ((go_split_ands;simp only [World.rangeAt_drew,World.there_drew,World.cell?_drew] at *; refine⟨?_,?_,?_⟩<;>first|assumption|(rw [World.cell?_setCells_out _ _ _ _ _ (by intro h1 _;simp at h1;omega)];assumption)|(refine World.rangeAt_setCells_apart (by assumption) _ _ _ (by omega))|(apply World.there_setCells;assumption)))
  (fail)
 go_wp2
 refine bodyPost_ret (results_none rfl _ _ _) rfl ?_
 have hk12:za (fun _=>False) w w1.drew:=(HK1.out.trans HK2.out iL).trans (za.drew _ _) iL
 have hr:=(HC1.out.kept (za.drew (fun _=>False) w1) nF).reset k hk b HBO.out
 exact⟨rfl,⟨_,_,by rw [HPUT.out];exact hr⟩,(hk12.mono fE).trans (za.setCells (S:=T) g hgT b (k*129+1) w1.drew) iL⟩
theorem xJ(w:World)(bc bd:Nat)(S T:Nat→Prop)(D:Dk)(C:Ck)(h:Cw w bc bd S T D C)(i:Nat)(b:List Value)(hb:zB b)(hfew:C.ws.length<1000):
 Calls Tryz.prog 135 #[.pointer (some ⟨bc,0,none⟩),.int .i64 i,.agg b.toArray] w fun e w'=>e=.returned (.tuple #[])∧(∃T',Cw w' bc bd S T' D (C.put i b)∧∀k,T' k→T k∨w.heap.size≤k)∧za T w w':=by
 obtain⟨a,cap,hc⟩:=h.chg
 have hS:=h.disk.lt
 cases hx:qW C.ws i with
 |none=>
  refine(dl w bc bd T C a cap hc i b hb hfew hx).mono ?_
  rintro e w' ⟨h1,⟨T',h2,h3⟩,h4⟩
  exact⟨h1,⟨T',⟨h.disk.kept h4 h.apart,h2,fun k hk hT=>by
   rcases h3 k hT with h5|h5
   ·exact h.apart k hk h5
   ·have:=hS k hk;omega⟩,h3⟩,h4⟩
 |some k=>
  obtain⟨hk,_⟩:=yU b hx
  obtain⟨g,rfl⟩:=hc.rowAt (by omega)
  refine(bT w bc bd T C g cap hc i k b hb hx).mono ?_
  rintro e w' ⟨h1,h2,h4⟩
  exact⟨h1,⟨T,⟨h.disk.kept h4 h.apart,h2,h.apart⟩,fun k hk=>.inl hk⟩,h4⟩
theorem uj(w:World)(b:Nat)(t:TypeId)(l:List UInt8)(h:qJ w b t l)(k o cap:Nat)(hk:k=4∨k=5)(ho:o+zg k≤l.length)(hcap:zg k≤cap)(e:En)(he:e.Ok)(hz:(l.drop o).take 8=List.replicate 8 0):
 Calls Tryz.prog 193 #[.int .u8 (k:Int),.slice (some ⟨b,o,none⟩) (zg k) cap,.agg #[.string e.pl.key,.int .i64 e.pl.num,.bool e.mark,.int .i64 (e.size:Int),.int .i64 (e.at_:Int)]] w fun r w'=>r=.returned (.tuple #[])∧qJ w' b t (zW l o (yS k e))∧za (fun i=>i=b) w w':=by
 rcases hk with rfl|rfl
 ·exact jZ w b t l h o cap ho hcap e he hz
 ·exact vC w b t l h o cap ho hcap e he hz
theorem dm(k:Nat)(es:List En)(i:Nat)(hi:i<es.length):(zd k (es.take i)).push (yS k es[i])=zd k (es.take (i+1)):=by
 unfold zd Pg.push
 rw [List.take_succ_eq_append_getElem hi,List.map_append];rfl
theorem bU{p:Pg}(h:p.Ok)(hf:(p.items.length+1)*zg p.kind≤124)(hl:p.items.length+1≤124)(hw:8≤zg p.kind):(((p.grown 1).bytes.drop (4+p.items.length*zg p.kind)).take 8)=List.replicate 8 0:=by
 have hg:=h.grown 1 hf hl
 have hi:p.items.length<(p.grown 1).items.length:=by rw [Pg.grown_len];omega
 have h1:=hg.item p.items.length hi
 have h2:(p.grown 1).items[p.items.length]=List.replicate (zg p.kind) 0:=by simp [Pg.grown]
 have h3:(p.grown 1).kind=p.kind:=rfl
 rw [h2,h3] at h1
 have h4:=congrArg (List.take 8) h1
 rw [List.take_take,Nat.min_eq_left hw,List.take_replicate,Nat.min_eq_left hw] at h4
 exact h4
theorem zC.below{w:World}{P:Nat→Prop}{a:Option Addr}{es:List En}(h:zC w P a es):zC w (fun j=>P j∧j<w.heap.size) a es:=
 ⟨h.at_.imp id (fun ⟨g,o,h1,h2,h3,h4⟩=>⟨g,o,h1,⟨h2,h3⟩,h3,h4⟩),h.few⟩
section
attribute [local go_sem ↓] xz
theorem Q8(w:World)(bc bd:Nat)(S T:Nat→Prop)(D:Dk)(C:Ck)(h:Cw w bc bd S T D C)(P:Nat→Prop)(a:Option Addr)(cap:Nat)(k:Nat)(hk:k=4∨k=5)(es:List En)(hr:zC w P a es)(hes:∀e∈es,e.Ok)(hlen:es.length≤6)(at_:Nat)(hfew:C.ws.length<1000):
 Calls Tryz.prog 173 #[.agg #[.int .u8 (k:Int),.slice a es.length cap],.pointer (some ⟨bc,0,none⟩),.int .i64 at_] w fun r w'=>r=.returned (.tuple #[])∧(∃T',Cw w' bc bd S T' D (C.put at_ (zv (zd k es)))∧∀j,T' j→T j∨w.heap.size≤j)∧za T w w':=by
 obtain⟨Zb,hZb,hz⟩:∃Zb:List Value,Zb=zG∧∀w,(zeroValue 154).run Tryz.prog w=.ok (.agg Zb.toArray) w:=⟨zG,rfl,zM Tryz.infoPage⟩
 have HZb:Hid (zB Zb):=by rw [hZb];exact zA
 clear hZb
 have HI:Hid ((Tryz.prog.info? 154).map (·.size)=some 128):=zH Tryz.infoPage
 have HH:Hid _:=h
 have HR:Hid _:=hr
 have hk6:k≤6:=by rcases hk with rfl|rfl<;>omega
 have HN1:Hid (zB (zv (Pg.new k))):=qD (Pg.new_ok k hk6)
 have HK0:Hid (za (fun _=>False) w (w.alloc (.cells #[.int .u8 (k:Int),.slice a es.length cap] 209))):=za.alloc _ _ _
 have hwk:8≤zg k∧zg k≤20:=by rcases hk with rfl|rfl<;>decide
 clear h hr
 go_enter Tryz.func173,Tryz.ntmps173
 go_wp2_with (first
  |(go_at_call 131;refine(y7 _ k hk6).mono ?_;rintro r w1 ⟨rfl,hk1⟩;have HK1:Hid _:=hk1;have hbx1:w1.heap[w.heap.size]? =_:=(hk1.block w.heap.size (by simp) (fun hf=>hf)).trans (heap_alloc_new w _);have HBX1:Hid _:=hbx1;have hx1:w1.cell? ⟨w.heap.size,1,none⟩=some (.slice a es.length cap):=(cR hbx1 rfl);have hl1:w.heap.size<w1.heap.size:=(lT hbx1);clear hk1 hbx1)
  |(show wpList _ _ _ ({dst:=none,op:=.store _ (.tmp 6) (.tmp 11),type:=_,pos:=_,after:=_,guard:=_}::_) _ _;refine zk rfl 154 (.tmp 6) (.tmp 11) rfl _ _ (zv (Pg.new k)) (by simp) rfl rfl (by rw [HN1.out.1];exact HI.out) (by rw [List.size_toArray,HZb.out.1,HN1.out.1]) HN1.out.2 ?_))
 have HP0:Hid (z4 (w1.alloc (.cells (zv (Pg.new k)).toArray 154)) w1.heap.size (zd k (es.take 0))):=⟨⟨heap_alloc_new w1 _⟩,Pg.new_ok k hk6⟩
 have HKW:Hid (za (fun _=>False) w (w1.alloc (.cells (zv (Pg.new k)).toArray 154))):=(HK0.out.trans HK1.out iL).trans (za.alloc _ _ _) iL
 have HBXW:Hid ((w1.alloc (.cells (zv (Pg.new k)).toArray 154)).heap[w.heap.size]? =some (.cells #[.int .u8 (k:Int),.slice a es.length cap] 209 (0,0))):=((za.alloc (fun _=>False) w1 _).block w.heap.size hl1 (fun hf=>hf)).trans HBX1.out
 have hsW:(w1.alloc (.cells (zv (Pg.new k)).toArray 154)).heap.size=w1.heap.size+1:=by simp
 generalize (w1.alloc (.cells (zv (Pg.new k)).toArray 154))=W at*
 go_loopw [15] (fun t wr=>∃(i:Nat),i≤es.length∧t=.int .i64 i∧za (fun j=>j=w1.heap.size) W wr∧z4 wr w1.heap.size (zd k (es.take i))) (fun t _=>es.length-(intOf t).toNat)
 case atStart=>exact⟨0,Nat.zero_le _,rfl,za.refl _ _,HP0.out⟩
 case round=>
  obtain⟨i,hi,rfl,hkept,hpg⟩:=hrel
  have HK:Hid _:=hkept
  have HP:Hid _:=hpg
  have hplen:(zd k (es.take i)).items.length=i:=by simp [zd];omega
  have hbxr:wr.heap[w.heap.size]? =_:=(hkept.block w.heap.size (by omega) (by omega)).trans HBXW.out
  have HBXR:Hid _:=hbxr
  have hk0:wr.cell? ⟨w.heap.size,0,none⟩=some (.int .u8 (k:Int)):=cR hbxr rfl
  have hlr:w.heap.size<wr.heap.size:=(lT hbxr)
  have hpb:=hpg.bs.lt
  have HRR:Hid (zC wr (fun j=>P j∧j<w.heap.size) a es):=(HR.out.below.kept HKW.out nF).kept hkept (fun j hj hjj=>by omega)
  clear hkept hpg hbxr
  by_cases hlt:i<es.length
  ·obtain⟨g,o,rfl⟩:=HRR.out.base (by omega)
   obtain⟨c0,c1,c2,c3,c4,hPg,hgl⟩:=HRR.out.cells i hlt
   have HEO:Hid es[i].Ok:=hes _ (List.getElem_mem hlt)
   have HSN:Hid _:=dm k es i hlt
   generalize es[i]=e at*
   have hmI:(i:Int)<(es.length:Int):=by omega
   go_wp2
   have hWW:(wr.alloc (.cells (zS e).toArray 109))=(wr.alloc (.cells #[.string e.pl.key,.int .i64 e.pl.num,.bool e.mark,.int .i64 (e.size:Int),.int .i64 (e.at_:Int)] 109)):=rfl
   have HW2:Hid ((wr.alloc (.cells (zS e).toArray 109)).heap[wr.heap.size]? =some (.cells (zS e).toArray 109 (0,0))):=heap_alloc_new wr _
   have HKA:Hid (za (fun _=>False) wr (wr.alloc (.cells (zS e).toArray 109))):=za.alloc _ _ _
   have hsA:(wr.alloc (.cells (zS e).toArray 109)).heap.size=wr.heap.size+1:=by simp
   rw [hWW] at HW2 HKA hsA
   clear hWW
   generalize (wr.alloc (.cells #[.string e.pl.key,.int .i64 e.pl.num,.bool e.mark,.int .i64 (e.size:Int),.int .i64 (e.at_:Int)] 109))=W2 at*
   have hj0:W2.cell? ⟨wr.heap.size,0,none⟩=some (.string e.pl.key):=cR HW2.out rfl
   have hj1:W2.cell? ⟨wr.heap.size,1,none⟩=some (.int .i64 e.pl.num):=cR HW2.out rfl
   have hj2:W2.cell? ⟨wr.heap.size,2,none⟩=some (.bool e.mark):=cR HW2.out rfl
   have hj3:W2.cell? ⟨wr.heap.size,3,none⟩=some (.int .i64 (e.size:Int)):=cR HW2.out rfl
   have hj4:W2.cell? ⟨wr.heap.size,4,none⟩=some (.int .i64 (e.at_:Int)):=cR HW2.out rfl
   have hkk:W2.cell? ⟨w.heap.size,0,none⟩=some (.int .u8 (k:Int)):=(HKA.out.cell (a:=⟨w.heap.size,0,none⟩) hlr (fun hf=>hf)).trans hk0
   have HPA:Hid (z4 W2.drew w1.heap.size (zd k (es.take i))):=(HP.out.kept HKA.out (fun hf=>hf)).kept (za.drew (fun _=>False) W2) (fun hf=>hf)
   have hfit:(i+1)*zg k≤124:=by
    have h6:i+1≤6:=by omega
    have:=Nat.mul_le_mul h6 hwk.2
    omega
   have HGV:Hid (jc w1.heap.size (zd k (es.take i)).kind (zd k (es.take i)).items.length 1=.slice (some ⟨w1.heap.size,4+i*zg k,none⟩) (zg k) (124-i*zg k)):=by
    show jc _ _ _ _=_
    rw [hplen]
    unfold jc
    rw [Nat.one_mul]
    rfl
   have HPO:Hid (zd k (es.take i)).Ok:=HP.out.ok
   have HZ8:Hid _:=bU (p:=zd k (es.take i)) HPO.out (by rw [hplen];exact hfit) (by rw [hplen];omega) hwk.1
   have HIL:Hid ((yS k e).length=zg k):=fY HEO.out hk
   have HPS:Hid _:=HPO.out.push_over (yS k e) HIL.out (by rw [hplen];exact hfit)
   have HOK:Hid (zd k (es.take (i+1))).Ok:=gx hk (fun x hx=>hes x (List.mem_of_mem_take hx)) (by rw [List.length_take];omega)
   have hmul:(i+1)*zg k=i*zg k+zg k:=Nat.succ_mul ..
   rw [HSN.out] at HPS
   rw [hplen] at HZ8 HPS
   have hnk:(zd k (es.take i)).kind=k:=rfl
   rw [hnk] at HZ8 HPS
   have HGL:Hid (((zd k (es.take i)).grown 1).bytes.length=128):=(HPO.out.grown 1 (by rw [hplen];exact hfit) (by rw [hplen];omega)).len
   generalize hP0:zd k (es.take i)=p at*
   go_region_held3 (fun w'=>w'.cell? ⟨w.heap.size,0,none⟩=some (.int .u8 (k:Int))∧w'.cell? ⟨wr.heap.size,0,none⟩=some (.string e.pl.key)∧w'.cell? ⟨wr.heap.size,1,none⟩=some (.int .i64 e.pl.num)∧w'.cell? ⟨wr.heap.size,2,none⟩=some (.bool e.mark)∧w'.cell? ⟨wr.heap.size,3,none⟩=some (.int .i64 (e.size:Int))∧w'.cell? ⟨wr.heap.size,4,none⟩=some (.int .i64 (e.at_:Int))) (go_keep) (first
    |(go_at_call 133;refine(jd _ _ _ (by exact HPA.out) 1 (by rw [hplen,hnk];exact hfit) (by rw [hplen];omega) (by rw [hnk];omega)).mono ?_;rintro r w3 ⟨hr3,hp3,hk3⟩;rw [HGV.out] at hr3;subst hr3;have HP3:Hid _:=hp3;have HK3:Hid (za (fun j=>j=w1.heap.size) W2.drew w3):=hk3;have hkk3:w3.cell? ⟨w.heap.size,0,none⟩=some (.int .u8 (k:Int)):=(hk3.cell (a:=⟨w.heap.size,0,none⟩) (show w.heap.size<W2.heap.size by omega) (by show ¬w.heap.size=w1.heap.size;omega)).trans hkk;have hb3:w3.heap[wr.heap.size]? =_:=(hk3.block wr.heap.size (show wr.heap.size<W2.heap.size by omega) (by omega)).trans HW2.out;have hj03:w3.cell? ⟨wr.heap.size,0,none⟩=some (.string e.pl.key):=(cR hb3 rfl);have hj13:w3.cell? ⟨wr.heap.size,1,none⟩=some (.int .i64 e.pl.num):=(cR hb3 rfl);have hj23:w3.cell? ⟨wr.heap.size,2,none⟩=some (.bool e.mark):=(cR hb3 rfl);have hj33:w3.cell? ⟨wr.heap.size,3,none⟩=some (.int .i64 (e.size:Int)):=(cR hb3 rfl);have hj43:w3.cell? ⟨wr.heap.size,4,none⟩=some (.int .i64 (e.at_:Int)):=(cR hb3 rfl);have HB3:Hid _:=hb3;have hl3:wr.heap.size<w3.heap.size:=(lT hb3);clear hp3 hk3 hb3)
    |(go_at_call 193;refine(uj _ _ _ _ (by exact HP3.out.bs) k (4+i*zg k) (124-i*zg k) hk (by rw [HGL.out];omega) (by omega) e HEO.out (by exact HZ8.out)).mono ?_;rintro r w4 ⟨rfl,hb4,hk4⟩;rw [HPS.out] at hb4;have HB4:Hid _:=hb4;have HK4:Hid (za (fun j=>j=w1.heap.size) w3 w4):=hk4;have hkk4:w4.cell? ⟨w.heap.size,0,none⟩=some (.int .u8 (k:Int)):=(hk4.cell (a:=⟨w.heap.size,0,none⟩) (show w.heap.size<w3.heap.size by omega) (by show ¬w.heap.size=w1.heap.size;omega)).trans hkk3;have hb5:w4.heap[wr.heap.size]? =_:=(hk4.block wr.heap.size hl3 (by omega)).trans HB3.out;have hj04:w4.cell? ⟨wr.heap.size,0,none⟩=some (.string e.pl.key):=(cR hb5 rfl);have hj14:w4.cell? ⟨wr.heap.size,1,none⟩=some (.int .i64 e.pl.num):=(cR hb5 rfl);have hj24:w4.cell? ⟨wr.heap.size,2,none⟩=some (.bool e.mark):=(cR hb5 rfl);have hj34:w4.cell? ⟨wr.heap.size,3,none⟩=some (.int .i64 (e.size:Int)):=(cR hb5 rfl);have hj44:w4.cell? ⟨wr.heap.size,4,none⟩=some (.int .i64 (e.at_:Int)):=(cR hb5 rfl);clear hb4 hk4 hb5))
   have HKF:Hid (za (fun j=>j=w1.heap.size) W w4):=((HK.out.trans (HKA.out) fE).trans (za.trans (b:=W2.drew) (za.drew _ W2) HK3.out iL) iL).trans HK4.out iL
   have HPF:Hid (z4 w4 w1.heap.size (zd k (es.take (i+1)))):=⟨HB4.out,HOK.out⟩
   go_wp2
   go_roundw
   ·exact⟨i+1,by omega,rfl,HKF.out,HPF.out⟩
   ·show es.length-((i:Int)+1).toNat<es.length-(i:Int).toNat
    omega
  ·have hie:i=es.length:=by omega
   subst hie
   have hmI:¬(es.length:Int)<(es.length:Int):=by omega
   have HPE:Hid (z4 wr w1.heap.size (zd k es)):=by have:=HP.out;rw [List.take_length] at this;exact this
   have HOV:Hid (zB (zv (zd k es))):=qD HPE.out.ok
   have hrP:(vt (.pointer (some ⟨w1.heap.size,0,none⟩))).run Tryz.prog wr=.ok (.agg (zv (zd k es)).toArray) wr:=yM _ _ _ _ (zJ HPE.out.bs.at_) HOV.out.1
   have HCW:Hid (Cw wr bc bd S T D C):=by
    have hS:=HH.out.disk.lt
    have hT:=HH.out.chg.lt
    exact(HH.out.kept0 HKW.out).kept HK.out (fun j hj hjj=>by have:=hS j hj;omega) (fun j hj hjj=>by have:=hT j hj;omega)
   go_wp2_with (go_at_call 135;refine(xJ _ bc bd S T D C HCW.out at_ _ HOV.out hfew).mono ?_;rintro r w5 ⟨rfl,⟨T5,hc5,hT5⟩,hk5⟩;have HC5:Hid _:=hc5;have HT5:Hid _:=hT5;have HK5:Hid _:=hk5;clear hc5 hT5 hk5)
   go_end0
   have hz1:=HKW.out.size
   have hz2:=HK.out.size
   refine⟨rfl,⟨T5,HC5.out,fun j hj=>(HT5.out j hj).imp id (fun h=>by omega)⟩,?_⟩
   have h1:za T w wr:=(HKW.out.mono fE).trans HK.out (fun j hj=>.inr (by omega))
   exact h1.trans HK5.out iL
end
end prog
namespace prog
def zO(m:List UInt8):Pg:=⟨3,0,m.map fun b=>[b]⟩
theorem kK(m:List UInt8):(m.map fun b=>[b]).flatten=m:=by
 induction m with
 |nil=>rfl
 |cons b m ih=>simp [ih]
theorem xA{m:List UInt8}(h:m.length=124):(zO m).Ok where
 kind:=by simp [zO]
 link:=by simp [zO]
 wide:=fun i hi=>by obtain⟨b,_,rfl⟩:=List.mem_map.1 hi;rfl
 fits:=by simp [zO,zg,h]
 few:=by simp [zO,h]
theorem xe{m:List UInt8}(h:m.length=124):(zO m).bytes=[3,124,0,0]++m:=by
 simp [Pg.bytes,zO,zg,h,kK,bytesOf]
def xP:List UInt8:=List.replicate 124 0
theorem ZN:xP.length=124:=by simp [xP]
theorem ZO:(Pg.new 3).grown 124=zO xP:=by
 simp [Pg.grown,Pg.new,zO,xP,zg]
def zD(m:List UInt8)(i:Nat):Bool:=(m.getD (i/8) 0).toNat.testBit (i%8)
def jG(m:List UInt8)(i:Nat):List UInt8:=m.set (i/8) (UInt8.ofNat ((m.getD (i/8) 0).toNat|||2^(i%8)))
def Jc(m:List UInt8)(i:Nat):List UInt8:=m.set (i/8) (UInt8.ofNat ((m.getD (i/8) 0).toNat&&&(255^^^2^(i%8))))
theorem dn(m:List UInt8)(i:Nat):(jG m i).length=m.length:=by simp [jG]
theorem bV(i:Nat):2^(i%8)<256:=by
 have h:i%8≤7:=by omega
 have:=Nat.pow_le_pow_right (show 0<2 by omega) h
 omega
theorem uk(r s:Nat):(2^r).testBit s=decide (r=s):=Nat.testBit_two_pow
theorem Q9{m:List UInt8}{i:Nat}{v:Nat}(hv:v<256)(hi:i/8<m.length)(j:Nat):
 zD (m.set (i/8) (UInt8.ofNat v)) j=if j/8=i/8 then v.testBit (j%8) else zD m j:=by
 unfold zD
 by_cases e:j/8=i/8
 ·rw [if_pos e,e,List.getD_eq_getElem?_getD,List.getElem?_set_self hi,Option.getD_some]
  simp [Nat.mod_eq_of_lt hv]
 ·rw [if_neg e,List.getD_eq_getElem?_getD,List.getElem?_set_ne (Ne.symm e),←List.getD_eq_getElem?_getD]
theorem ZP{m:List UInt8}{i:Nat}(hi:i/8<m.length)(j:Nat):zD (jG m i) j=(zD m j||decide (j=i)):=by
 have hv:(m.getD (i/8) 0).toNat|||2^(i%8)<256:=Nat.or_lt_two_pow (n:=8) (m.getD (i/8) 0).toNat_lt (bV i)
 unfold jG
 rw [Q9 hv hi]
 split
 next e=>
  rw [Nat.testBit_or,uk]
  unfold zD
  rw [e]
  congr 1
  simp;omega
 next e=>rw [decide_eq_false (by intro h;rw [h] at e;exact e rfl),Bool.or_false]
theorem bW(i:Nat):zD xP i=false:=by
 unfold zD xP
 rw [List.getD_eq_getElem?_getD,List.getElem?_replicate]
 split<;>simp
end prog
end Go.Proofs.YtcoengihaobddaaGreatDoor

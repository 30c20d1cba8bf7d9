/- Part 9 of 30 of a proof: Keep6, Keep7, Keep8, Keep9, Keep10 -/
import Derived.Test.YtcoengihaobddaaGreatDoorJu08
set_option maxHeartbeats 8000000
set_option linter.unusedVariables false
set_option linter.unusedSimpArgs false
set_option maxRecDepth 8000
namespace Go.Proofs.YtcoengihaobddaaGreatDoor
namespace keep
open Go.ChangeShapes Go.WideShapes Go.ChangeAt Go.RowKit disk ref book
open law (qF zj yG yF yo jr KU Chg K1)
open keys (zh zd zu zp zr)
structure ct where
 key:Int
 what:Int
 la:Option Addr
 l:List UInt8
 lc:Nat
 fuse:Int
 ka:Option Addr
 ks:List Bool
 kc:Nat
def ct.cells(o:ct):List Value:=[.int .i64 o.key,.int .i64 o.what,.slice o.la o.l.length o.lc,.int .i64 o.fuse,.slice o.ka o.ks.length o.kc]
structure ct.Ok (w:World) (Q:Nat→Prop) (o:ct):Prop where
 key:zO o.key
 what:zO o.what
 fuse:zO o.fuse
 l:zB w Q o.la o.l
 len:o.l.length≤140737488355326
 cap:o.l.length≤o.lc
 klen:o.ks.length≤140737488355326
 ks:∀j,j<o.ks.length→∃kb ko,o.ka=some ⟨kb,ko,none⟩∧Q kb∧kb<w.heap.size∧w.cell? ⟨kb,ko+j,none⟩=some (.bool (o.ks.getD j false))
theorem ct.Ok.kept{w w':World}{Q T:Nat→Prop}{o:ct}(h:o.Ok w Q)(k:za T w w')(hn:∀i,Q i→¬T i):o.Ok w' Q:=
 ⟨h.key,h.what,h.fuse,h.l.kept k hn,h.len,h.cap,h.klen,fun j hj=>by
  obtain⟨kb,ko,h1,h2,h3,h4⟩:=h.ks j hj
  exact⟨kb,ko,h1,h2,Nat.lt_of_lt_of_le h3 k.size,(k.cell (a:=⟨kb,ko+j,none⟩) h3 (hn kb h2)).trans h4⟩⟩
structure Ka (w:World) (Q:Nat→Prop) (a:Option Addr) (ods:List ct):Prop where
 each:∀i (hi:i<ods.length),∃b o,a=some ⟨b,o,none⟩∧Q b∧b<w.heap.size∧w.rangeAt b (o+i*5) ods[i].cells
 ok:∀i (hi:i<ods.length),ods[i].Ok w Q
theorem Ka.kept{w w':World}{Q T:Nat→Prop}{a:Option Addr}{ods:List ct}(h:Ka w Q a ods)(k:za T w w')(hn:∀i,Q i→¬T i):Ka w' Q a ods:=
 ⟨fun i hi=>by
  obtain⟨b,o,h1,h2,h3,h4⟩:=h.each i hi
  exact⟨b,o,h1,h2,Nat.lt_of_lt_of_le h3 k.size,fun j v hv=>(k.cell (a:=⟨b,o+i*5+j,none⟩) h3 (hn b h2)).trans (h4 j v hv)⟩,fun i hi=>(h.ok i hi).kept k hn⟩
def vY(M:zj)(w:World)(X:Nat→Prop)(bp:Nat)(D:Dk)(V:qF):Prop:=∃bd bs S a cap cs G,yH M w X bp bd bs S D V a cap cs G
theorem vY.kept{M:zj}{w w':World}{X T:Nat→Prop}{bp:Nat}{D:Dk}{V:qF}(h:vY M w X bp D V)(k:za T w w')(hn:∀i,X i→¬T i):vY M w' X bp D V:=by
 obtain⟨bd,bs,S,a,cap,cs,G,h⟩:=h
 exact⟨bd,bs,S,a,cap,cs,G,h.kept k hn⟩
structure Fit (V:qF) (D:Dk) (n t:Nat):Prop where
 weight:weight V.vs≤473
 n0:V.n0≤n
 reads:D.reads≤40*(n:Int)+2000000*t
theorem kK(V:qF)(key:ByteArray)(mark:Bool)(l:List UInt8):weight (V.add key mark l).vs=weight V.vs+qA l.length:=by
 unfold weight qF.add;simp
theorem js:∀vs:List zV,vs.length≤weight vs
 |[]=>Nat.zero_le _
 |v::vs=>by
  have:=js vs
  unfold weight qA at this ⊢
  simp only [List.map_cons,List.sum_cons,List.length_cons]
  omega
theorem Fit.done{V:qF}{D:Dk}(h:Fit V D V.vs.length 1):Fit V D 473 1:=by
 have h1:=h.weight
 have h2:=js V.vs
 have h3:=h.n0
 have h4:=h.reads
 exact⟨h1,by omega,by omega⟩
theorem yH.again{M:zj}{w:World}{X:Nat→Prop}{bp bd bs:Nat}{S:Nat→Prop}{D:Dk}{V:qF}{a:Option Addr}{cap:Nat}{cs:List (List Value)}{G:Nat→Prop}(h:yH M w X bp bd bs S D V a cap cs G):yH M (w.setCell ⟨bp,6,none⟩ (.bool true)) X bp bd bs S D V a cap cs G:=by
 have k:=za.setCell (S:=fun k=>k=bp) w ⟨bp,6,none⟩ (.bool true) rfl
 refine⟨?_,yo.kept h.fore k (fun i hi e=>h.pS (by rw [←show i=bp from e];exact hi)) (fun e=>h.pb e.symm),h.size,k.owns h.row (fun i hi e=>(h.rS i hi).2.2 e),h.told.kept k (fun i hi e=>(h.gS i hi).2.2.1 e),fun i hi=>Nat.lt_of_lt_of_le (h.xlt i hi) k.size,h.xS,h.xb,h.xp,h.xr,h.xG,h.pS,h.pb,h.rS,h.gS⟩
 rw [heap_setCell_same w bp 6 _ _ _ h.head];rfl
theorem Z6(M:zj)(AO:yG M)(AP:yF M)(hM:∀f,M.Fu f→f≠0)(w:World)(Q:Nat→Prop)(hQ:∀k,Q k→k<w.heap.size)(a:Option Addr)(cap:Nat)(ods:List ct)(h:Ka w Q a ods)(hlen:ods.length≤2000000000000):
 Calls Tryz.prog 19 #[.slice a ods.length cap] w fun e w'=>∃X bp D V,e=.returned (.pointer (some ⟨bp,0,none⟩))∧vY M w' X bp D V∧Fit V D 473 1∧za (fun _=>False) w w'∧(∀k,X k→w.heap.size≤k)∧(∀v∈V.vs,v.mark=false):=by
 have HC:Hid (Ka w Q a ods):=h
 have HQ:Hid (∀k,Q k→k<w.heap.size):=hQ
 clear h hQ
 go_enter Tryz.func19,Tryz.ntmps19
 go_wp2_with fail
 refine(cq M AO hM _).mono ?_
 rintro e w1 ⟨X1,bp,bd,bs,S,D,rfl,hs,hk1,hx1,hr1⟩
 have HS1:Hid (vY M w1 X1 bp D ⟨[],0⟩):=⟨bd,bs,S,none,0,[],_,hs⟩
 have HK1:Hid (za (fun _=>False) w w1):=hk1
 have HX1:Hid (∀k,X1 k→w.heap.size≤k∧k<w1.heap.size):=fun k hk=>⟨hx1 k hk,hs.xlt k hk⟩
 clear hs hk1 hx1
 go_wp2_with fail
 refine(ck _).mono ?_
 rintro e w2 ⟨rfl,hk2,hb2⟩
 have HK2:Hid (za (fun _=>False) w1 w2):=hk2
 have HB2:Hid (w2.heap[w1.heap.size]? =some (.cells vX 9 (0,0))):=hb2
 clear hk2 hb2
 go_wp2_with fail
 go_loopw [5] (fun t wr=>∃i:Nat,i≤ods.length∧t=.int .i64 i∧∃X D V,vY M wr X bp D V∧Fit V D V.vs.length 1∧V.n0=V.vs.length∧(∀v∈V.vs,v.mark=false)∧za (fun k=>X1 k) w2 wr∧(∀k,X k→X1 k∨w2.heap.size≤k)) (fun t _=>ods.length-(intOf t).toNat)
 case atStart=>exact⟨0,Nat.zero_le _,rfl,X1,D,⟨[],0⟩,HS1.out.kept HK2.out nF,⟨by simp [weight],by simp,by show D.reads≤_;simp;omega⟩,rfl,by simp,za.refl _ _,fun k hk=>.inl hk⟩
 case round=>
  obtain⟨i,hi,rfl,X,D,V,hs,hf,hn,hm,hk,hx⟩:=hrel
  obtain⟨bd',bs',S',a',cap',cs',G',hs⟩:=hs
  obtain⟨hc0,hc1,hc2,hc3,hc5,hc6,hfz⟩:=hs.c
  have hf6:=hfz 6
  have HS:Hid (yH M wr X bp bd' bs' S' D V a' cap' cs' G'):=hs
  have HF:Hid (Fit V D V.vs.length 1):=hf
  have HMK:Hid (∀v∈V.vs,v.mark=false):=hm
  have HKR:Hid (za (fun k=>X1 k) w2 wr):=hk
  have HXX:Hid (∀k,X k→X1 k∨w2.heap.size≤k):=hx
  have hw:=hf.weight
  have hlw:=js V.vs
  have hbp:=hs.lt
  clear hs hf hm hk hx hc0 hc1 hc2 hc3 hc5 hfz
  by_cases hlt:i<ods.length
  ·have hiI:(i:Int)<(ods.length:Int):=by omega
   by_cases hwt:weight V.vs<470
   ·have hwI:((weight V.vs:Nat):Int)<470:=by omega
    obtain⟨b,o,rfl,hQb,hbl,hrg⟩:=HC.out.each i hlt
    have HOK:Hid (ods[i].Ok w Q):=HC.out.ok i hlt
    have hkw:za (fun k=>w.heap.size≤k) w wr:=((HK1.out.trans HK2.out iL).mono fE).trans HKR.out (fun k hk=>.inl (HX1.out k hk).1)
    have hblr:b<wr.heap.size:=by have:=hkw.size;omega
    have c0:wr.cell? ⟨b,o+i*5,none⟩=some (.int .i64 ods[i].key):=(hkw.cell (a:=⟨b,o+i*5,none⟩) hbl (by show ¬w.heap.size≤b;omega)).trans (hrg 0 _ rfl)
    have c2:wr.cell? ⟨b,o+i*5+2,none⟩=some (.slice ods[i].la ods[i].l.length ods[i].lc):=(hkw.cell (a:=⟨b,o+i*5+2,none⟩) hbl (by show ¬w.heap.size≤b;omega)).trans (hrg 2 _ rfl)
    have HKW:Hid (za (fun k=>w.heap.size≤k) w wr):=hkw
    have hkb:wr.heap[w1.heap.size]? =some (.cells vX 9 (0,0)):=(HKR.out.block w1.heap.size (lT HB2.out) (fun hc=>by have:=(HX1.out _ hc).2;omega)).trans HB2.out
    have HKB:Hid (wr.heap[w1.heap.size]? =some (.cells vX 9 (0,0))):=hkb
    clear hrg hkw
    generalize ods[i]=od at*
    have HPK:Hid (∀W,Calls Tryz.prog 21 #[.int .i64 od.key,.int .i64 12] W fun e w'=>e=.returned (.int .i64 (jJ od.key 12:Int))∧w'=W):=fun W=>gD W od.key 12 HOK.out.key (by omega) (by omega)
    have hr2:jJ od.key 12<12:=by have:=ci od.key 12 (by omega);omega
    generalize jJ od.key 12=r at*
    obtain⟨ky,hky,hkb1,hks⟩:=dc r hr2
    have hrI:(r:Int)<12:=by omega
    have hrI0:(0:Int)≤(r:Int):=by omega
    have HKY:Hid (zr ky.data.toList=true):=hkb1
    have hck:wr.cell? ⟨w1.heap.size,r,none⟩=some (.string ky):=(cell_of_row wr _ r _ _ _ hkb).trans hky
    clear hkb1 hky hkb
    go_wp2_with (go_at_call 32;refine(yO HS.out (by omega)).mono ?_;rintro e w9 ⟨rfl,hw9⟩;rw [hw9];clear hw9 w9)
    go_region_held3 (fun w'=>w'.cell? ⟨b,o+i*5,none⟩=some (.int .i64 od.key)∧w'.cell? ⟨b,o+i*5+2,none⟩=some (.slice od.la od.l.length od.lc)∧w'.cell? ⟨bp,6,none⟩=some (.bool true)∧w'.cell? ⟨w1.heap.size,r,none⟩=some (.string ky)) (first|(exact⟨((za.setCell (S:=fun k=>k=bp) w4 ⟨bp,6,none⟩ (.bool true) rfl).cell (a:=⟨b,o+i*5,none⟩) hb4 hnbp).trans c04,((za.setCell (S:=fun k=>k=bp) w4 ⟨bp,6,none⟩ (.bool true) rfl).cell (a:=⟨b,o+i*5+2,none⟩) hb4 hnbp).trans c24,HS4.out.again.c.2.2.2.2.2.1,((za.setCell (S:=fun k=>k=bp) w4 ⟨bp,6,none⟩ (.bool true) rfl).cell (a:=⟨w1.heap.size,r,none⟩) hw14 hnw1).trans ck4⟩)|go_keep) ((first
     |(go_at_call 21;refine(HPK.out _).mono ?_;rintro e w9 ⟨rfl,rfl⟩)
     |(go_at_call 15;refine(QY AP hM (w:=wr.drew) (X:=X) (HS.out.kept (za.drew (fun _=>False) wr) nF) hwt (by omega) (by have:=HF.out.reads;omega) ky HKY.out hks (fun k=>Q k) (fun k hk hX=>by have:=HQ.out k hk;have:=HK1.out.size;have:=HK2.out.size;rcases HXX.out k hX with h|h;have:=HX1.out k h;omega;omega) od.la od.lc od.l ((HOK.out.kept HKW.out (fun k hk hc=>by have:=HQ.out k hk;omega)).l.kept (za.drew (fun _=>False) wr) nF) HOK.out.len HOK.out.cap).mono ?_;rintro e w4 ⟨rfl,S4,D4,a4,cap4,cs4,G4,hs4,hr4,hk4⟩;have HS4:Hid (yH M w4 (fun k=>X k∨(wr.heap.size≤k∧k<w4.heap.size)) bp bd' bs' S4 D4 (V.add ky false (od.l.take 300)) a4 cap4 cs4 G4):=hs4;have HK4:Hid (za X wr w4):=⟨hk4.os,hk4.tape,hk4.output,hk4.size,hk4.block⟩;have hnb:¬X b:=(fun hX=>by have:=HQ.out b hQb;have:=HK1.out.size;have:=HK2.out.size;rcases HXX.out b hX with h|h;have:=HX1.out b h;omega;omega);have c04:w4.cell? ⟨b,o+i*5,none⟩=some (.int .i64 od.key):=(HK4.out.cell (a:=⟨b,o+i*5,none⟩) hblr hnb).trans c0;have c24:w4.cell? ⟨b,o+i*5+2,none⟩=some (.slice od.la od.l.length od.lc):=(HK4.out.cell (a:=⟨b,o+i*5+2,none⟩) hblr hnb).trans c2;have c64:w4.cell? ⟨bp,6,none⟩=some (.bool true):=hs4.c.2.2.2.2.2.1;have f64:w4.frozen? ⟨bp,6,none⟩=false:=hs4.c.2.2.2.2.2.2 6;have hbp4:=hs4.lt;have hnbp:b≠bp:=(fun e=>hnb (by rw [e];exact HS.out.xp));have hb4:b<w4.heap.size:=(by have:=hk4.size;have e9:wr.drew.heap.size=wr.heap.size:=rfl;omega);have nXw:¬X w1.heap.size:=(fun hX=>by have h2:=(lT HB2.out);rcases HXX.out _ hX with h|h;have:=HX1.out _ h;omega;omega);have hwr1:w1.heap.size<wr.heap.size:=(lT HKB.out);have ck4:w4.cell? ⟨w1.heap.size,r,none⟩=some (.string ky):=(HK4.out.cell (a:=⟨w1.heap.size,r,none⟩) hwr1 nXw).trans hck;have hnw1:w1.heap.size≠bp:=(fun e=>nXw (by rw [e];exact HS.out.xp));have hw14:w1.heap.size<w4.heap.size:=(by have:=HK4.out.size;omega);clear hs4 hk4)))
    go_wp2
    go_roundw
    case rel=>
     have hw4:weight (V.add ky false (od.l.take 300)).vs≤473:=by
      rw [kK]
      have:(od.l.take 300).length≤300:=by rw [List.length_take];omega
      unfold qA
      omega
     have hl4:(V.add ky false (od.l.take 300)).vs.length=V.vs.length+1:=by simp [qF.add]
     have hr5:=HF.out.reads
     refine⟨i+1,by omega,by go_num,_,D4,V.add ky false (od.l.take 300),⟨_,_,_,_,_,_,_,HS4.out.again⟩,⟨hw4,?_,?_⟩,?_,?_,(HKR.out.trans HK4.out (fun k hk=>HXX.out k hk)).trans (za.setCell (S:=fun k=>k=bp) w4 ⟨bp,6,none⟩ _ rfl) (fun k hk=>HXX.out k (by rw [show k=bp from hk];exact HS.out.xp)),fun k hk=>?_⟩
     ·show V.n0+1≤_
      rw [hl4];omega
     ·rw [hl4];push_cast;omega
     ·show V.n0+1=_
      rw [hl4];omega
     ·intro v hv
      rcases List.mem_append.1 (show v∈V.vs++[_] from hv) with h|h
      ·exact HMK.out v h
      ·rw [List.mem_singleton.1 h]
     ·rcases hk with hk|⟨hk,_⟩
      ·exact HXX.out k hk
      ·exact .inr (by have:=HKR.out.size;omega)
    case measure=>simp [intOf];omega
   ·have hwI:decide (((weight V.vs:Nat):Int)<470)=false:=decide_eq_false (by omega)
    go_wp2_with (go_at_call 32;refine(yO HS.out (by omega)).mono ?_;rintro e w9 ⟨rfl,hw9⟩;rw [hw9];clear hw9 w9)
    go_ret
    exact⟨X,bp,D,V,rfl,⟨_,_,_,_,_,_,_,HS.out⟩,HF.out.done,(HK1.out.trans HK2.out iL).trans HKR.out (fun k hk=>.inr (HX1.out k hk).1),fun k hk=>(HXX.out k hk).elim (fun h=>(HX1.out k h).1) (fun h=>by have:=HK1.out.size;have:=HK2.out.size;omega),HMK.out⟩
  ·have hiI:decide ((i:Int)<(ods.length:Int))=false:=decide_eq_false (by omega)
   go_wp2_with fail
   go_ret
   exact⟨X,bp,D,V,rfl,⟨_,_,_,_,_,_,_,HS.out⟩,HF.out.done,(HK1.out.trans HK2.out iL).trans HKR.out (fun k hk=>.inr (HX1.out k hk).1),fun k hk=>(HXX.out k hk).elim (fun h=>(HX1.out k h).1) (fun h=>by have:=HK1.out.size;have:=HK2.out.size;omega),HMK.out⟩
end keep
namespace keep
open Go.ChangeShapes Go.WideShapes Go.ChangeAt Go.RowKit disk ref book
open law (qF zj xg yo jr ql XM dY)
open keys (zh zd zu zp zr)
theorem jx{P:Program}{ops:Array Oper}{rest:List Oper}{o:Oper}{a:Act}{w:World}{Q:Exit→Act→World→Prop}(hgd:o.guard=none)(s x:Operand)(t:TypeId)
 (ho:o.op=.call {callee:=.builtin .append,args:=#[s,x],argTypes:=#[t,t] })
 (e:TypeId) (i:TypeInfo) (z:Value) (size bytes:Nat) (ht:P.underlying t=some (.slice e)) (hi:P.info? e=some i) (hz:i.zero=some z)
 (hsize:i.size=size) (hby:i.bytes=bytes) (hzs:z.cells.size=size) (hsz:0<size) (v:Value) (n:Nat) (xs:List Value) (hs:a.eval s=.slice none 0 0) (hx:a.eval x=v) (hown:w.ownsRow 0 e size v n xs) (h1:∀u∈xs,u.oneCell'=true)
 (h63:n≤maxLen) (hbytes:n*bytes≤140737488355328)
 (h:∀a' c' w',w'.ownsRow 0 e size (.slice a' n c') n xs→w.grownBy w' none→((Value.slice a' n c').ownBlock=none∨(Value.slice a' n c').ownBlock=some w.heap.size)→wpList P ops Q rest (a.put o.dst (.slice a' n c')) w'):wpList P ops Q (o::rest) a w:=by
 refine wpList_plain hgd fun K hK=>?_
 obtain⟨a',c',w',hr,h2,h3,h4⟩:=disk.run_copy_row (P:=P) w t o.type e i z size bytes ht hi hz hsize hby hzs hsz v n xs hown h1 h63 hbytes
 unfold Oper.wp execOp
 simp only [ho,resolve,invoke,builtin,Sem.run_bind,Sem.run_pure,Result.andThen_ok,List.map_toArray,List.map_cons,List.map_nil,hs,hx,hr]
 exact hK _ _ (h a' c' w' h2 h3 h4)
def dZ(L:List zV)(n:Nat):ByteArray:=if n=0 then ByteArray.empty else (L.getD (n-1) ⟨ByteArray.empty,0,false,[]⟩).key
def bM(L:List zV)(n:Nat):Int:=if n=0 then 0 else (L.getD (n-1) ⟨ByteArray.empty,0,false,[]⟩).num
theorem uD:∀(L:List zV) (n:Nat) (u:zV),L.Pairwise (fun a b=>a.ahead b=true)→n<L.length→L[n]? =some u→L.filter (fun v=>u.ahead v)=L.drop (n+1)
 |[],n,u,_,h,_=>by simp at h
 |x::L,0,u,hs,_,hu=>by
  obtain rfl:x=u:=by simpa using hu
  rw [List.pairwise_cons] at hs
  rw [List.filter_cons,if_neg (zV.ahead_irrefl x)]
  exact List.filter_eq_self.2 (fun v hv=>hs.1 v hv)
 |x::L,n+1,u,hs,h,hu=>by
  rw [List.pairwise_cons] at hs
  have hu':L[n]? =some u:=by simpa using hu
  have hx:=hs.1 u (List.mem_of_getElem? hu')
  rw [List.filter_cons,if_neg (zV.ahead_asymm hx)]
  exact uD L n u hs.2 (by simpa using h) hu'
theorem bf(v:zV)(p k:ByteArray)(n:Int)(hk:k≠ByteArray.empty):ys v p k n=(ys v p ByteArray.empty 0&&(⟨k,n,false,[]⟩:zV).ahead v):=by
 unfold ys zV.ahead
 have:decide (k=ByteArray.empty)=false:=decide_eq_false hk
 rw [this]
 simp [eq_comm]
theorem qX.behind{vs:List zV}{p:ByteArray}{L:List zV}(h:qX vs p ByteArray.empty 0 L)(hk:∀v∈vs,v.key≠ByteArray.empty)(n:Nat)(hn:n≤L.length):qX vs p (dZ L n) (bM L n) (L.drop n):=by
 by_cases h0:n=0
 ·subst h0
  exact h
 ·obtain⟨j,rfl⟩:∃j,n=j+1:=⟨n-1,by omega⟩
  obtain⟨u,hu⟩:∃u,L[j]? =some u:=⟨L[j],by simp⟩
  have hmem:u∈vs:=(List.mem_filter.1 (h.perm.subset (List.mem_of_getElem? hu))).1
  have e1:dZ L (j+1)=u.key:=by unfold dZ;simp [hu]
  have e2:bM L (j+1)=u.num:=by unfold bM;simp [hu]
  rw [e1,e2]
  refine⟨h.sorted.sublist (List.drop_sublist _ _),?_⟩
  have e3:vs.filter (fun v=>ys v p u.key u.num)=(vs.filter fun v=>ys v p ByteArray.empty 0).filter (fun v=>u.ahead v):=by
   rw [List.filter_filter]
   refine List.filter_congr fun v _=>?_
   rw [bf v p u.key u.num (hk u hmem),Bool.and_comm]
   rfl
  rw [e3,←uD L j u h.sorted (by omega) hu]
  exact h.perm.filter _
theorem bg(l r:List zV):ql (l++r)=ql l++ql r:=by unfold ql;simp
theorem de(l:List zV):(ql l).length=l.length*4:=by
 unfold ql
 induction l with
 |nil=>rfl
 |cons v l ih=>simp only [List.map_cons,List.flatten_cons,List.length_append,List.length_cons,ih];simp [XM];omega
theorem YK(L:List zV)(n m:Nat):L.take (n+((L.drop n).take m).length)=L.take n++(L.drop n).take m:=by
 rw [List.take_add]
 congr 1
 rw [List.length_take]
 by_cases h:m≤(L.drop n).length
 ·rw [Nat.min_eq_left h]
 ·rw [Nat.min_eq_right (by omega),List.take_of_length_le (Nat.le_refl _),List.take_of_length_le (by omega)]
theorem XO(L:List zV)(n:Nat)(h:n<L.length):dZ L (n+1)=L[n].key∧bM L (n+1)=L[n].num:=by
 unfold dZ bM;simp [h]
theorem jK{k:ByteArray}(h:zr k.data.toList=true):k.size≤8:=by
 unfold zr at h
 simp only [Bool.and_eq_true,decide_eq_true_eq] at h
 simpa using h.1.2
structure YL (M:zj) (w wr:World) (bd bs:Nat) (S:Nat→Prop) (D:Dk) (V:qF) (L:List zV) (m i n:Nat) (a:Option Addr) (c:Nat) (S':Nat→Prop) (D':Dk):Prop where
 ni:n=i*m
 nlt:n=0∨n<L.length
 fore:yo M wr bd bs S' D' V
 foot:∀k,S' k→S k∨w.heap.size≤k
 kept:za (fun k=>S k∨k=bs) w wr
 reads0:D.reads≤D'.reads
 reads1:D'.reads≤D.reads+1000*(i:Int)
 size:D'.bs.length=D.bs.length
 row:Row wr a c (L.take n)
 new:∀k,(Value.slice a n c).ownBlock=some k→w.heap.size≤k∧¬S' k
 nil:n=0→a=none∧c=0
section
variable {M:zj} {w wr w2 w5:World} {bd bs:Nat} {S S' S2:Nat→Prop} {D D' D2:Dk} {V:qF} {L KK:List zV} {m i n q c c2:Nat} {a:Option Addr}
structure YM (M:zj) (w w5:World) (bd bs:Nat) (S:Nat→Prop) (D:Dk) (V:qF) (L:List zV) (i n:Nat) (a5:Option Addr) (c5:Nat) (S2:Nat→Prop) (D2:Dk):Prop where
 fore:yo M w5 bd bs S2 D2 V
 foot:∀k,S2 k→S k∨w.heap.size≤k
 kept:za (fun k=>S k∨k=bs) w w5
 reads0:D.reads≤D2.reads
 reads1:D2.reads≤D.reads+1000*((i:Int)+1)
 size:D2.bs.length=D.bs.length
 row:Row w5 a5 c5 (L.take n)
 new:∀k,(Value.slice a5 n c5).ownBlock=some k→w.heap.size≤k∧¬S2 k
theorem YL.page(h:YL M w wr bd bs S D V L m i n a c S' D')(haft:jr M wr w2 bd bs S' S2 D' D2 1000 (some bd))(hlive:M.Live D2 V)(hbs:bs<w.heap.size)(hrd:D2.reads≤2305843009213693952)(T:Nat→Prop)(k5:za T w2 w5)(hT:∀k,T k→w.heap.size≤k∧¬S2 k)(a5:Option Addr)(c5 n':Nat)(hrow:Row w5 a5 c5 (L.take n'))(hnew:∀k,(Value.slice a5 n' c5).ownBlock=some k→w.heap.size≤k∧¬S2 k):YM M w w5 bd bs S D V L i n' a5 c5 S2 D2:=by
 have hfoot:∀k,S2 k→S k∨w.heap.size≤k:=fun k hk=>by
  rcases haft.foot k hk with h1|h1
  ·exact h.foot k h1
  ·exact .inr (by have:=h.kept.size;omega)
 have nbs:¬S2 bs:=fun hk=>by
  rcases haft.foot bs hk with h1|h1
  ·exact h.fore.apart h1
  ·have:=h.kept.size;omega
 have r0:=h.reads0
 have r1:=h.reads1
 have s0:=haft.reads0
 have s1:=haft.reads1
 have f0:=h.fore.reads0
 refine⟨yo.kept ⟨haft.disk,nbs,haft.sto,hlive,haft.fuse,by omega,hrd,h.fore.few⟩ k5 (fun k hk hc=>(hT k hc).2 hk) (fun hc=>by have:=(hT bs hc).1;omega),hfoot,?_,by omega,by omega,haft.size.trans h.size,hrow,hnew⟩
 refine(h.kept.trans (haft.kept.mono (S':=fun k=>S' k∨k=bs) (fun k hk=>hk)) (fun k hk=>?_)).trans k5 (fun k hk=>.inr (hT k hk).1)
 rcases hk with hk|hk
 ·exact(h.foot k hk).imp .inl id
 ·exact .inl (.inr hk)
theorem YL.first(h:YL M w wr bd bs S D V L m i 0 none 0 S' D')(haft:jr M wr w2 bd bs S' S2 D' D2 1000 (some bd))(hlive:M.Live D2 V)(hbs:bs<w.heap.size)(hrd:D2.reads≤2305843009213693952)(htp:L.take (0+q)=L.take 0++KK)(hq:KK.length=q)(o:Obj)(a5:Option Addr)(c5:Nat)
 (hown:w5.ownsRow 0 94 4 (.slice a5 q c5) q (ql KK)) (hgrow:(w2.alloc o).grownBy w5 none) (hat:(Value.slice a5 q c5).ownBlock=none∨(Value.slice a5 q c5).ownBlock=some (w2.alloc o).heap.size):YM M w w5 bd bs S D V L i q a5 c5 S2 D2:=by
 have e:L.take q=KK:=by simpa using htp
 have h1:=h.kept.size
 have h2:=haft.kept.size
 refine h.page haft hlive hbs hrd (fun _=>False) ((za.alloc _ w2 o).trans (za.grown hgrow (fun k hk=>by cases hk)) iL) fE a5 c5 q ?_ (fun k hk=>?_)
 ·unfold Row
  rw [e,hq]
  exact hown
 ·have e2:k=w2.heap.size+1:=by
   rcases hat with h3|h3<;>rw [h3] at hk<;>simp at hk;omega
  exact⟨by omega,fun hs=>by have:=haft.disk.lt k hs;omega⟩
theorem YL.next(h:YL M w wr bd bs S D V L m i n a c S' D')(haft:jr M wr w2 bd bs S' S2 D' D2 1000 (some bd))(hlive:M.Live D2 V)(hbs:bs<w.heap.size)(hrd:D2.reads≤2305843009213693952)(htp:L.take (n+q)=L.take n++KK)(hq:KK.length=q)(hn:n+q≤L.length)(o:Obj)(g5 c5:Nat)
 (hown:w5.ownsRow 0 94 4 (.slice (some ⟨g5,0,none⟩) (n+q) c5) (n+q) (ql (L.take n)++ql KK)) (hgrow:(w2.alloc o).grownBy w5 (Value.slice a n c).ownBlock) (hat:(Value.slice a n c).ownBlock=some g5∨g5=w2.heap.size+1):YM M w w5 bd bs S D V L i (n+q) (some ⟨g5,0,none⟩) c5 S2 D2:=by
 have h1:=h.kept.size
 have h2:=haft.kept.size
 have hold:∀k,(Value.slice a n c).ownBlock=some k→w.heap.size≤k∧¬S2 k:=fun k hk=>by
  have h3:=h.new k hk
  refine⟨h3.1,fun hs=>?_⟩
  rcases haft.foot k hs with h4|h4
  ·exact h3.2 h4
  ·have hl:n≤L.length:=by omega
   have h5:k<wr.heap.size:=by
    have hr:wr.ownsRow 0 94 4 (.slice a (L.take n).length c) (L.take n).length (ql (L.take n)):=h.row
    rw [List.length_take,Nat.min_eq_left hl] at hr
    exact(hr.lt k hk).2
   omega
 refine h.page haft hlive hbs hrd (fun k=>(Value.slice a n c).ownBlock=some k) ((za.alloc _ w2 o).trans (za.grown hgrow (fun k hk=>hk)) iL) hold _ _ _ ?_ (fun k hk=>?_)
 ·unfold Row
  rw [List.length_take,Nat.min_eq_left hn,htp,bg]
  exact hown
 ·obtain rfl:g5=k:=by simpa [Value.ownBlock] using hk
  rcases hat with h3|h3
  ·exact hold _ h3
  ·exact⟨by omega,fun hs=>by have:=haft.disk.lt _ hs;omega⟩
theorem YM.last{a5:Option Addr}{c5:Nat}(h:YM M w w5 bd bs S D V L i n a5 c5 S2 D2)(h0:0<n)(hn:n≤L.length):∃g j,a5=some ⟨g,0,none⟩∧g<w5.heap.size∧j+1=n∧w5.cell? ⟨g,j*4,none⟩=some (.string (dZ L n))∧w5.cell? ⟨g,j*4+1,none⟩=some (.int .i64 (bM L n)):=by
 have hl:(L.take n).length=n:=by rw [List.length_take,Nat.min_eq_left hn]
 obtain⟨g,e,hg,hc⟩:=h.row.cells (by omega)
 obtain⟨j,rfl⟩:∃j,n=j+1:=⟨n-1,by omega⟩
 obtain⟨c0,c1,_,_⟩:=hc j (by omega)
 obtain⟨e1,e2⟩:=XO L j (by omega)
 rw [List.getElem_take] at c0 c1
 exact⟨g,j,e,hg,rfl,by rw [e1];exact c0,by rw [e2];exact c1⟩
theorem YM.on{a5:Option Addr}{c5 n':Nat}(h:YM M w w5 bd bs S D V L i n' a5 c5 S2 D2)(ni:n'=(i+1)*m)(hn:n'<L.length)(h0:0<n'):YL M w w5 bd bs S D V L m (i+1) n' a5 c5 S2 D2:=
 ⟨ni,.inr hn,h.fore,h.foot,h.kept,h.reads0,by have:=h.reads1;push_cast;omega,h.size,h.row,h.new,fun e=>by omega⟩
theorem YM.done{a5:Option Addr}{c5 n':Nat}{p:ByteArray}(h:YM M w w5 bd bs S D V L i n' a5 c5 S2 D2)(hi:i<2000)(hn:n'=L.length)(hL:qX V.vs p ByteArray.empty 0 L):∃D' S' a c L',Ending.returned (Value.tuple #[.slice a5 n' c5,.bool true])=.returned (.tuple #[.slice a L'.length c,.bool true])∧jr M w w5 bd bs S S' D D' 2000000 (some bd)∧M.Live D' V∧qX V.vs p ByteArray.empty 0 L'∧Row w5 a c L'∧∀k,(Value.slice a L'.length c).ownBlock=some k→w.heap.size≤k∧¬S' k:=by
 subst hn
 have hr:=h.row
 rw [List.take_length] at hr
 have r1:=h.reads1
 exact⟨D2,S2,a5,c5,L,rfl,⟨h.fore.disk,h.foot,h.fore.sto,h.kept,h.reads0,by omega,h.size,h.fore.fuse⟩,h.fore.live,hL,hr,h.new⟩
end
set_option maxRecDepth 60000 in
theorem Z7(M:zj)(A:xg M)(w:World)(bd bs:Nat)(S:Nat→Prop)(D:Dk)(V:qF)(F:yo M w bd bs S D V)(p:ByteArray)(hp:p=ByteArray.empty∨zr p.data.toList=true)(hps:p.size≤8)(m:Nat)(m1:1≤m)(m2:m≤50)(hlen:V.vs.length≤1000)(hrd:D.reads≤1000000000000):
 Calls Tryz.prog 20 #[.pointer (some ⟨bs,0,none⟩),.string p,.int .i64 (m:Int)] w fun e w'=>∃D' S' a c L,e=.returned (.tuple #[.slice a L.length c,.bool true])∧jr M w w' bd bs S S' D D' 2000000 (some bd)∧M.Live D' V∧qX V.vs p ByteArray.empty 0 L∧Row w' a c L∧∀k,(Value.slice a L.length c).ownBlock=some k→w.heap.size≤k∧¬S' k:=by
 have hgood:=F.live.good
 obtain⟨L,hL⟩:∃L,qX V.vs p ByteArray.empty 0 L:=⟨_,bU V.vs hgood.apart p ByteArray.empty 0⟩
 have hne:∀v∈V.vs,v.key≠ByteArray.empty:=fun v hv e=>by
  have:=hgood.key v hv
  rw [e] at this
  exact absurd this (by decide)
 have hLl:L.length≤1000:=by
  rw [hL.perm.length_eq]
  exact Nat.le_trans (List.length_filter_le _ _) hlen
 have hmem:∀v∈L,v∈V.vs:=fun v hv=>(List.mem_filter.1 (hL.perm.subset hv)).1
 have hplk:∀n,n≤L.length→yC p (dZ L n) (bM L n) m=0∧(dZ L n).size≤8∧zO (bM L n):=fun n hn=>by
  have h1:(dZ L n=ByteArray.empty∧bM L n=0)∨∃v∈V.vs,dZ L n=v.key∧bM L n=v.num:=by
   by_cases h0:n=0
   ·subst h0;exact .inl ⟨rfl,rfl⟩
   ·obtain⟨j,rfl⟩:∃j,n=j+1:=⟨n-1,by omega⟩
    obtain⟨e1,e2⟩:=XO L j (by omega)
    exact .inr ⟨L[j],hmem _ (List.getElem_mem _),e1,e2⟩
  have hn0:=F.few
  have h2:(dZ L n=ByteArray.empty∨zr (dZ L n).data.toList=true)∧0≤bM L n∧bM L n≤2305843009213693952∧(dZ L n).size≤8:=by
   rcases h1 with⟨e1,e2⟩|⟨v,hv,e1,e2⟩
   ·rw [e1,e2];exact⟨.inl rfl,by omega,by omega,by decide⟩
   ·have h3:=hgood.num v hv
    have h4:=hgood.key v hv
    rw [e1,e2]
    refine⟨.inr h4,by omega,by omega,?_⟩
    have:=jK h4
    exact this
  refine⟨?_,h2.2.2.2,⟨by omega,by omega⟩⟩
  unfold yC
  rw [if_neg,if_neg (by omega)]
  rintro(⟨h3,h4⟩|⟨h3,h4⟩)
  ·rcases hp with h5|h5
   ·exact h3 h5
   ·rw [h5] at h4;cases h4
  ·rcases h2.1 with h5|h5
   ·exact h3 h5
   ·rw [h5] at h4;cases h4
 have HL:Hid (qX V.vs p ByteArray.empty 0 L):=hL
 have HPL:Hid (∀n,n≤L.length→yC p (dZ L n) (bM L n) m=0∧(dZ L n).size≤8∧zO (bM L n)):=hplk
 have HNE:Hid (∀v∈V.vs,v.key≠ByteArray.empty):=hne
 have HF:Hid (yo M w bd bs S D V):=F
 obtain⟨i0,hi0,hz0,hz1,hz2⟩:=xI Tryz.infoVer
 have HI0:Hid (Tryz.prog.info? 94=some i0∧i0.zero=some (.agg #[.string ⟨#[]⟩,.int .i64 0,.bool false,.int .i64 0])∧i0.size=4∧i0.bytes=40):=⟨hi0,hz0,hz1,hz2⟩
 have hbsw:=M.sto_lt _ _ _ F.sto
 clear hi0 hz0 hz1 hz2 hL hplk hne F hmem hgood hp
 go_enter Tryz.func20,Tryz.ntmps20
 go_wp2_with fail
 go_loopw [8,9,10,11] (fun x ky nu t wr=>∃i n:Nat,∃a c S' D',x=.slice a n c∧ky=.string (dZ L n)∧nu=.int .i64 (bM L n)∧t=.int .i64 (i:Int)∧YL M w wr bd bs S D V L m i n a c S' D') (fun _ _ _ t _=>2000-(intOf t).toNat)
 case atStart=>
  exact⟨0,0,none,0,S,D,rfl,rfl,rfl,rfl,⟨by simp,.inl rfl,HF.out,fun k hk=>.inl hk,za.refl _ _,Int.le_refl _,by omega,rfl,Row.nil w,fun k hk=>(by cases hk),fun _=>⟨rfl,rfl⟩⟩⟩
 case round=>
  obtain⟨i,n,a,c,S',D',rfl,rfl,rfl,rfl,hinv⟩:=hrel
  have HV:Hid (YL M w wr bd bs S D V L m i n a c S' D'):=hinv
  have hni:=hinv.ni
  have hnl:=hinv.nlt
  have hr0:=hinv.reads0
  have hr1:=hinv.reads1
  have hnL:n≤L.length:=by omega
  have hi2:i≤n:=by rw [hni];exact Nat.le_mul_of_pos_right i (by omega)
  have hi3:(i:Int)<2000:=by omega
  obtain⟨q0,q1,q2⟩:=HPL.out n hnL
  have HQ0:Hid (yC p (dZ L n) (bM L n) m=0):=q0
  have hbs2:=HF.out.reads0
  clear hinv q0 hni
  generalize hK:dZ L n=K at*
  generalize hN:bM L n=N at*
  have HKN:Hid (dZ L n=K∧bM L n=N):=⟨hK,hN⟩
  clear hK hN
  go_wp2_with fail
  refine(A.live wr bd bs S' D' V p K N m HV.out.fore (by unfold maxLen;omega) (by unfold maxLen;omega) q2 ⟨by omega,by omega⟩).mono ?_
  rintro e w2 ⟨D2,S2,x,more,rfl,haft,hlive,hpage,_,hx2⟩
  rw [HQ0.out]
  obtain⟨L',hL',hpg⟩:=hpage HQ0.out
  obtain rfl:L'=L.drop n:=hL'.unique (by have:=qX.behind HL.out HNE.out n hnL;rw [HKN.out.1,HKN.out.2] at this;exact this) (List.Perm.refl _)
  obtain⟨a2,c2,rfl,hown2,hfr2⟩:=hpg.at_
  have hmore:=hpg.more
  have hm0:((m:Int)).toNat=m:=by simp
  rw [hm0] at hown2 hfr2 hmore hx2
  simp only [hm0]
  have HAFT:Hid (jr M wr w2 bd bs S' S2 D' D2 1000 (some bd)):=haft
  have HLV:Hid (M.Live D2 V):=hlive
  have hql:((L.drop n).take m).length=min m (L.length-n):=by rw [List.length_take,List.length_drop]
  have HTP:Hid (L.take (n+((L.drop n).take m).length)=L.take n++(L.drop n).take m):=YK L n m
  generalize hKK:(L.drop n).take m=KK at*
  generalize hq:KK.length=q at*
  have HO2:Hid (w2.ownsRow 0 94 4 (.slice a2 q c2) q (ql KK)):=hown2
  have HF2:Hid (∀k,(Value.slice a2 q c2).ownBlock=some k→wr.heap.size≤k∧¬S2 k):=fun k hk=>⟨hfr2 k hk,hx2 k hk⟩
  have hld:(L.drop n).length=L.length-n:=List.length_drop
  rw [hld] at hmore
  have hsz2:=haft.kept.size
  have HKL:Hid (KK.length=q):=hq
  clear hpage hpg haft hlive hL' hown2 hfr2 hx2 hKK hld hq
  have hb3:∀v,(w2.alloc (.cells #[v,.bool more] 90)).heap[w2.heap.size]? =some (.cells #[v,.bool more] 90 (0,0)):=fun v=>heap_alloc_new w2 _
  have HOA:Hid (∀o,(w2.alloc o).ownsRow 0 94 4 (.slice a2 q c2) q (ql KK)):=fun o=>World.ownsRow.alloc HO2.out o
  by_cases hn0:n=0
  ·subst hn0
   obtain⟨rfl,rfl⟩:=HV.out.nil rfl
   cases more with
   |true=>
    have hm3:m<L.length-0:=of_decide_eq_true hmore.symm
    have eq:q=m:=by omega
    subst eq
    clear hmore hql
    go_wp2_with (refine jx rfl (.tmp 47) (.tmp 49) 44 rfl 94 i0 _ 4 40 Tryz.underlying44 HI0.out.1 HI0.out.2.1 HI0.out.2.2.1 HI0.out.2.2.2 rfl (by omega) (.slice a2 q c2) q (ql KK) (by rfl) (by rfl) (HOA.out _) (jY KK) (by unfold maxLen;omega) (by omega) ?_;intro a5 c5 w5 hown5 hgrow5 hat5;have hc51:w5.cell? ⟨w2.heap.size,1,none⟩=some (.bool true):=(hgrow5.cell_far ⟨w2.heap.size,1,none⟩ (by simp) (fun e=>by cases e)).trans ((cell_of_row _ _ 1 _ _ _ (hb3 _)).trans rfl);have HX:Hid (YM M w w5 bd bs S D V L i q a5 c5 S2 D2):=YL.first HV.out HAFT.out HLV.out hbsw (by have:=HAFT.out.reads1;omega) HTP.out HKL.out _ a5 c5 hown5 hgrow5 hat5;clear hown5 hgrow5 hat5;obtain⟨g5,j,rfl,hg5,hj,hk0,hk1⟩:=HX.out.last (by omega) (by omega);have hjI:(j:Int)<(q:Int):=(by omega);have hw1:IntKind.i64.wrap ((q:Int)-1)=(j:Int):=(by rw [show (q:Int)-1=(j:Int) by omega];exact IntWalk.i64_in _ (by omega)))
    go_roundw
    case rel=>exact⟨i+1,q,_,_,S2,D2,rfl,rfl,rfl,by go_num,HX.out.on (by have:=HV.out.ni;rw [Nat.add_mul,←this];omega) (by omega) (by omega)⟩
    case measure=>simp [intOf];omega
   |false=>
    have hm3:¬m<L.length-0:=of_decide_eq_false hmore.symm
    have HEQ:Hid (q=L.length):=by show q=_;omega
    have hqm:q≤m:=by omega
    have hqI:(q:Int)≤(m:Int):=by omega
    clear hmore hql hm3
    go_wp2_with (refine jx rfl (.tmp 47) (.tmp 49) 44 rfl 94 i0 _ 4 40 Tryz.underlying44 HI0.out.1 HI0.out.2.1 HI0.out.2.2.1 HI0.out.2.2.2 rfl (by omega) (.slice a2 q c2) q (ql KK) (by rfl) (by rfl) (HOA.out _) (jY KK) (by unfold maxLen;omega) (by omega) ?_;intro a5 c5 w5 hown5 hgrow5 hat5;have hc51:w5.cell? ⟨w2.heap.size,1,none⟩=some (.bool false):=(hgrow5.cell_far ⟨w2.heap.size,1,none⟩ (by simp) (fun e=>by cases e)).trans ((cell_of_row _ _ 1 _ _ _ (hb3 _)).trans rfl);have HX:Hid (YM M w w5 bd bs S D V L i q a5 c5 S2 D2):=YL.first HV.out HAFT.out HLV.out hbsw (by have:=HAFT.out.reads1;omega) HTP.out HKL.out _ a5 c5 hown5 hgrow5 hat5;clear hown5 hgrow5 hat5)
    go_ret2
    exact HX.out.done (by omega) HEQ.out HL.out
  ·obtain⟨g2,rfl⟩:∃g2,a2=some ⟨g2,0,none⟩:=by
    rcases HO2.out.2 with⟨h0,h1⟩|⟨g,cap',cur,hv,_⟩
    ·omega
    ·cases hv;exact⟨g,rfl⟩
   have HRL:Hid (∀k,(Value.slice a n c).ownBlock=some k→k<w2.heap.size):=fun k hk=>by
    have hr:wr.ownsRow 0 94 4 (.slice a (L.take n).length c) (L.take n).length (ql (L.take n)):=HV.out.row
    rw [List.length_take,Nat.min_eq_left hnL] at hr
    have:=(hr.lt k hk).2
    omega
   have HRA:Hid (∀o,(w2.alloc o).ownsRow 0 94 4 (.slice a n c) n (ql (L.take n))):=fun o=>World.ownsRow.alloc (by
    have hr:wr.ownsRow 0 94 4 (.slice a (L.take n).length c) (L.take n).length (ql (L.take n)):=HV.out.row
    rw [List.length_take,Nat.min_eq_left hnL] at hr
    refine HAFT.out.kept.owns hr (fun k hk hc=>?_)
    have h3:=HV.out.new k hk
    rcases hc with hc|hc
    ·exact h3.2 hc
    ·omega) o
   cases more with
   |true=>
    have hm3:m<L.length-n:=of_decide_eq_true hmore.symm
    have eq:q=m:=by omega
    subst eq
    clear hmore hql
    go_wp2_with (refine wpList_append_lies _ rfl (.tmp 47) (.tmp 49) 44 rfl 0 94 i0 _ 4 40 Tryz.underlying44 HI0.out.1 HI0.out.2.1 HI0.out.2.2.1 HI0.out.2.2.2 rfl (by omega) (.slice a n c) n (ql (L.take n)) (by rfl) (HRA.out _) ⟨g2,0,none⟩ q c2 (ql KK) (by rfl) (by rw [de,HKL.out]) (by exact(HOA.out _).cells (g:=g2) rfl) (jY KK) (by omega) (by unfold maxLen;omega) (by omega) (Nat.zero_le _) (w2.heap.size+1) (by simp) ?_;intro g5 c5 w5 hown5 hgrow5 hat5 hlt5;have hc51:w5.cell? ⟨w2.heap.size,1,none⟩=some (.bool true):=(hgrow5.cell_far ⟨w2.heap.size,1,none⟩ (by simp) (fun e=>Nat.lt_irrefl _ (HRL.out _ e.symm))).trans ((cell_of_row _ _ 1 _ _ _ (hb3 _)).trans rfl);have HX:Hid (YM M w w5 bd bs S D V L i (n+q) (some ⟨g5,0,none⟩) c5 S2 D2):=YL.next HV.out HAFT.out HLV.out hbsw (by have:=HAFT.out.reads1;omega) HTP.out HKL.out (by omega) _ g5 c5 hown5 hgrow5 hat5;clear hown5 hgrow5 hat5;obtain⟨g6,j,e6,hg5,hj,hk0,hk1⟩:=HX.out.last (by omega) (by omega);obtain rfl:g5=g6:=(by simpa using e6);have hjI:(j:Int)<(n:Int)+(q:Int):=(by omega);have hw1:IntKind.i64.wrap ((n:Int)+(q:Int)-1)=(j:Int):=(by rw [show (n:Int)+(q:Int)-1=(j:Int) by omega];exact IntWalk.i64_in _ (by omega)))
    go_roundw
    case rel=>exact⟨i+1,n+q,_,_,S2,D2,rfl,rfl,rfl,by go_num,HX.out.on (by have:=HV.out.ni;rw [Nat.add_mul,←this];omega) (by omega) (by omega)⟩
    case measure=>simp [intOf];omega
   |false=>
    have hm3:¬m<L.length-n:=of_decide_eq_false hmore.symm
    have HEQ:Hid (n+q=L.length):=by show n+q=_;omega
    have hqm:q≤m:=by omega
    have hqp:0<q:=by omega
    have hnq:n+q≤L.length:=by omega
    have hqI:(q:Int)≤(m:Int):=by omega
    clear hmore hql hm3
    go_wp2_with (refine wpList_append_lies _ rfl (.tmp 47) (.tmp 49) 44 rfl 0 94 i0 _ 4 40 Tryz.underlying44 HI0.out.1 HI0.out.2.1 HI0.out.2.2.1 HI0.out.2.2.2 rfl (by omega) (.slice a n c) n (ql (L.take n)) (by rfl) (HRA.out _) ⟨g2,0,none⟩ q c2 (ql KK) (by rfl) (by rw [de,HKL.out]) (by exact(HOA.out _).cells (g:=g2) rfl) (jY KK) (by omega) (by unfold maxLen;omega) (by omega) (Nat.zero_le _) (w2.heap.size+1) (by simp) ?_;intro g5 c5 w5 hown5 hgrow5 hat5 hlt5;have hc51:w5.cell? ⟨w2.heap.size,1,none⟩=some (.bool false):=(hgrow5.cell_far ⟨w2.heap.size,1,none⟩ (by simp) (fun e=>Nat.lt_irrefl _ (HRL.out _ e.symm))).trans ((cell_of_row _ _ 1 _ _ _ (hb3 _)).trans rfl);have HX:Hid (YM M w w5 bd bs S D V L i (n+q) (some ⟨g5,0,none⟩) c5 S2 D2):=YL.next HV.out HAFT.out HLV.out hbsw (by have:=HAFT.out.reads1;omega) HTP.out HKL.out (by omega) _ g5 c5 hown5 hgrow5 hat5;clear hown5 hgrow5 hat5)
    go_ret2
    exact HX.out.done (by omega) HEQ.out HL.out
end keep
namespace keep
open Go.ChangeShapes Go.WideShapes Go.ChangeAt Go.RowKit disk ref book
open law (qF zj yG yF xg yo jr ql XM dY)
open keys (zh zd zu zp zr)
theorem Z8(v:zV):ys v ByteArray.empty ByteArray.empty 0=true:=by unfold ys;simp
theorem qX.all{vs L:List zV}(h:qX vs ByteArray.empty ByteArray.empty 0 L):L.Perm vs:=by
 have:=h.perm
 rwa [List.filter_eq_self.2 (fun v _=>Z8 v)] at this
section
variable {M:zj} {w w':World} {bd bs:Nat} {S S':Nat→Prop} {D D':Dk} {V:qF} {most:Int}
theorem jr.far(h:jr M w w' bd bs S S' D D' most (some bd)){k:Nat}(hk:k<w.heap.size)(hs:¬S k)(hb:k≠bs):w'.heap[k]? =w.heap[k]? ∧¬S' k:=
 ⟨h.kept.block k hk (fun hc=>hc.elim hs hb),fun hc=>by
  rcases h.foot k hc with h1|h1
  ·exact hs h1
  ·omega⟩
end
end keep
namespace keep
open Go.RowKit disk ref book
open law (qF zj yG yF xg vU vW xo yo jr Chg K1 OutIs Good)
open keys (zr)
def XP(bd bs:Nat)(l:Value)(last:Int):Obj:=.cells #[.pointer (some ⟨bd,0,none⟩),.pointer (some ⟨bs,0,none⟩),l,.int .i64 last,.int .i64 (-1),.int .i64 0,.bool true] 33 (0,0)
structure xY (M:zj) (w0 w:World) (bp bd bs:Nat) (O:Obj) (S:Nat→Prop) (D:Dk) (V:qF):Prop where
 fore:yo M w bd bs S D V
 head:w.heap[bp]? =some O
 pS:¬S bp
 pb:bp≠bs
 low:∀k,S k→w0.heap.size≤k
 lowb:w0.heap.size≤bs
 kept:za (fun k=>w0.heap.size≤k) w0 w
 size:D.bs.length=1000
structure x9 (w:World) (S:Nat→Prop) (bs:Nat) (e:TypeId) (sz:Nat) (v:Value) (n:Nat) (xs:List Value):Prop where
 row:w.ownsRow 0 e sz v n xs
 far:∀k,v.ownBlock=some k→¬S k∧k≠bs
section
variable {M:zj} {w0 w w':World} {bp bd bs:Nat} {O:Obj} {S S':Nat→Prop} {D D':Dk} {V V':qF} {most:Int}
theorem xY.lt(h:xY M w0 w bp bd bs O S D V):bp<w.heap.size:=(lT h.head)
theorem xY.bs_lt(h:xY M w0 w bp bd bs O S D V):bs<w.heap.size:=M.sto_lt _ _ _ h.fore.sto
theorem xY.keep(h:xY M w0 w bp bd bs O S D V)(k:za (fun _=>False) w w'):xY M w0 w' bp bd bs O S D V:=
 ⟨yo.kept h.fore k nF (fun hf=>hf),(k.block bp h.lt (fun hf=>hf)).trans h.head,h.pS,h.pb,h.low,h.lowb,h.kept.trans k fE,h.size⟩
theorem xY.aft(h:xY M w0 w bp bd bs O S D V)(ha:jr M w w' bd bs S S' D D' most (some bd))(hl:M.Live D' V')(hr:D'.reads≤2305843009213693952)(hn:V'.n0≤2305843009213693952):xY M w0 w' bp bd bs O S' D' V':=by
 have h1:=jr.far ha h.lt h.pS h.pb
 refine⟨⟨ha.disk,fun hk=>?_,ha.sto,hl,ha.fuse,by have:=h.fore.reads0;have:=ha.reads0;omega,hr,hn⟩,h1.1.trans h.head,h1.2,h.pb,fun k hk=>?_,h.lowb,h.kept.trans ha.kept (fun k hk=>.inl ?_),ha.size.trans h.size⟩
 ·rcases ha.foot bs hk with h2|h2
  ·exact h.fore.apart h2
  ·have:=h.bs_lt;omega
 ·rcases ha.foot k hk with h2|h2
  ·exact h.low k h2
  ·have:=h.kept.size;omega
 ·rcases hk with hk|hk
  ·exact h.low k hk
  ·rw [hk];exact h.lowb
theorem xY.c1{l:Value}{n:Int}(h:xY M w0 w bp bd bs (XP bd bs l n) S D V):w.cell? ⟨bp,1,none⟩=some (.pointer (some ⟨bs,0,none⟩)):=(cell_of_row w bp 1 _ _ _ h.head).trans rfl
theorem xY.end(h:xY M w0 w bp bd bs O S D V):za (fun _=>False) w0 w:=⟨h.kept.os,h.kept.tape,h.kept.output,h.kept.size,fun k hk _=>h.kept.block k hk (by omega)⟩
theorem x9.keep{e:TypeId}{sz n:Nat}{v:Value}{xs:List Value}(h:x9 w S bs e sz v n xs)(k:za (fun _=>False) w w'):x9 w' S bs e sz v n xs:=⟨k.owns h.row nF,h.far⟩
theorem x9.aft{e:TypeId}{sz n:Nat}{v:Value}{xs:List Value}(h:x9 w S bs e sz v n xs)(ha:jr M w w' bd bs S S' D D' most (some bd)):x9 w' S' bs e sz v n xs:=
 ⟨ha.kept.owns h.row (fun k hk hc=>hc.elim (h.far k hk).1 (h.far k hk).2),fun k hk=>⟨(jr.far ha (h.row.lt k hk).2 (h.far k hk).1 (h.far k hk).2).2,(h.far k hk).2⟩⟩
def vk(V:qF)(key:ByteArray):Int:=gt true (qh V.vs key)
def kw(V:qF)(key:ByteArray):Int:=match qh V.vs key with
 |some u=>if u.mark then 0 else u.num
 |none=>0
def xW(V:qF)(key:ByteArray):List UInt8:=match qh V.vs key with
 |some u=>if u.mark then [] else u.body
 |none=>[]
structure gE (w:World) (S:Nat→Prop) (bs:Nat) (a:Option Addr) (cap:Nat) (l:List UInt8):Prop where
 row:l=[]∨x9 w S bs 5 1 (.slice a l.length cap) l.length (l.map qa)
theorem gE.keep{a:Option Addr}{cap:Nat}{l:List UInt8}(h:gE w S bs a cap l)(k:za (fun _=>False) w w'):gE w' S bs a cap l:=⟨h.row.imp id (fun h=>h.keep k)⟩
theorem gE.aft{a:Option Addr}{cap:Nat}{l:List UInt8}(h:gE w S bs a cap l)(ha:jr M w w' bd bs S S' D D' most (some bd)):gE w' S' bs a cap l:=⟨h.row.imp id (fun h=>h.aft ha)⟩
theorem gE.bytes{a:Option Addr}{cap:Nat}{l:List UInt8}(h:gE w S bs a cap l):zB w (fun _=>True) a l:=by
 rcases h.row with h|h
 ·exact .inl h
 ·exact zB.of_own 5 h.row rfl _ (fun _ _=>trivial)
theorem uZ(A:vU M)(h:xY M w0 w bp bd bs O S D V)(hr:D.reads≤1000000000000)(key:ByteArray)(hk:zr key.data.toList=true):
 Calls Tryz.prog 26 #[.pointer (some ⟨bs,0,none⟩),.string key] w fun e w'=>∃S' D' a cap,e=.returned (.tuple #[.slice a (xW V key).length cap,.int .i64 (kw V key),.int .i64 (vk V key)])∧jr M w w' bd bs S S' D D' 40 (some bd)∧xY M w0 w' bp bd bs O S' D' V∧D'.reads≤D.reads+40∧gE w' S' bs a cap (xW V key):=by
 have hks:=jK hk
 refine(A.live w bd bs S D V key h.fore (by unfold maxLen;omega)).mono ?_
 rintro e w' ⟨D',x,n,S',rfl,ha,hl,hout,hx,hn1,hn2⟩
 rw [hk] at hout hn1 hn2 ⊢
 have hs:=h.aft ha hl (by have:=ha.reads1;omega) h.fore.few
 have hbs:=h.bs_lt
 cases hnw:qh V.vs key with
 |none=>
  rw [hnw] at hout hn1
  obtain⟨a,cap,rfl⟩:=hout.2 (by decide)
  obtain rfl:=hn1 (by decide)
  refine⟨S',D',a,cap,?_,ha,hs,ha.reads1,⟨.inl ?_⟩⟩
  ·unfold xW kw vk;rw [hnw];rfl
  ·unfold xW;rw [hnw]
 |some u=>
  rw [hnw] at hout hn1 hn2
  cases hm:u.mark with
  |true=>
   have e1:gt true (some u)=5:=by show cond u.mark 5 0=5;rw [hm];rfl
   rw [e1] at hout hn1 ⊢
   obtain⟨a,cap,rfl⟩:=hout.2 (by decide)
   obtain rfl:=hn1 (by decide)
   refine⟨S',D',a,cap,?_,ha,hs,ha.reads1,⟨.inl ?_⟩⟩
   ·unfold xW kw vk;rw [hnw];simp only [hm,if_true,e1];rfl
   ·unfold xW;rw [hnw];simp only [hm,if_true]
  |false=>
   have e1:gt true (some u)=0:=by show cond u.mark 5 0=0;rw [hm];rfl
   rw [e1] at hout hn2 ⊢
   obtain⟨u',hu',a,cap,rfl,hrow,hfr⟩:=hout.1 rfl
   obtain rfl:u=u':=by simpa using hu'
   have hn:=hn2 u rfl rfl
   subst hn
   have eL:xW V key=u.body:=by unfold xW;rw [hnw];simp [hm]
   rw [eL]
   refine⟨S',D',a,cap,?_,ha,hs,ha.reads1,⟨.inr ⟨hrow,fun k hk=>⟨hx k hk,by have:=hfr k hk;omega⟩⟩⟩⟩
   unfold kw vk;rw [hnw];simp [hm,e1]
theorem Kb(A:yF M)(hM:∀f,M.Fu f→f≠0)(h:xY M w0 w bp bd bs O S D V)(hr:D.reads≤1000000000000)(hn0:V.n0≤1000000)(hw:weight V.vs≤480)(key:ByteArray)(hk:zr key.data.toList=true)(P:Nat→Prop)(a:Option Addr)(c:Nat)(l:List UInt8)(hb:zB w P a l)(hP:∀k,P k→¬S k∧k≠bs)(hl:l.length≤300)(hc:l.length≤c)(hc2:c≤9223372036854775807):
 Calls Tryz.prog 27 #[.pointer (some ⟨bs,0,none⟩),.string key,.slice a l.length c] w fun e w'=>∃S' D',e=.returned (.tuple #[.int .i64 (V.n0+1),.int .i64 0])∧jr M w w' bd bs S S' D D' 40 (some bd)∧xY M w0 w' bp bd bs O S' D' (V.add key false l)∧D'.reads≤D.reads+40:=by
 have hks:=jK hk
 refine(A.live w bd bs S P D V key a c l h.fore (by unfold maxLen;omega) hb hP (by omega) hc hc2).mono ?_
 rintro e w' ⟨D',S',c',n,q,rfl,ha,hchg,hn⟩
 have hw0:kJ (zr key.data.toList) l.length=0:=by rw [hk];show (if 300<l.length then (3:Int) else 0)=0;rw [if_neg (by omega)]
 have hfit:yW V.vs (qA l.length) D.bs.length=true:=by
  unfold yW qA
  rw [h.size]
  refine decide_eq_true ?_
  omega
 obtain⟨rfl,rfl,hlive⟩:c'=0∧q=some bd∧M.Live D' (V.add key false l):=by
  rcases hchg.is with h|h|h|h
  ·exact absurd hw0 h.1
  ·exact h.2
  ·rw [hfit] at h;exact absurd h.2.2.2.2 (by simp)
  ·exact absurd h.2.2.2.1 (hM _ ha.fuse)
 rw [if_pos rfl] at hn
 subst hn
 have hnn:V.n0+1≤2305843009213693952:=by omega
 exact⟨S',D',rfl,ha,h.aft ha hlive (by have:=ha.reads1;omega) hnn,ha.reads1⟩
theorem Kc(A:vW M)(hM:∀f,M.Fu f→f≠0)(h:xY M w0 w bp bd bs O S D V)(hr:D.reads≤1000000000000)(hn0:V.n0≤1000000)(hw:weight V.vs≤480)(key:ByteArray)(hk:zr key.data.toList=true)(hbare:ux V.vs key=false):
 Calls Tryz.prog 30 #[.pointer (some ⟨bs,0,none⟩),.string key] w fun e w'=>∃S' D',e=.returned (.tuple #[.int .i64 (V.n0+1),.int .i64 0])∧jr M w w' bd bs S S' D D' 40 (some bd)∧xY M w0 w' bp bd bs O S' D' (V.add key true [])∧D'.reads≤D.reads+40:=by
 have hks:=jK hk
 refine(A.live w bd bs S D V key h.fore (by unfold maxLen;omega)).mono ?_
 rintro e w' ⟨D',S',c',n,q,rfl,ha,hchg,hn⟩
 have hw0:qI (zr key.data.toList) (ux V.vs key)=0:=by rw [hk,hbare];rfl
 have hfit:yW V.vs 1 D.bs.length=true:=by
  unfold yW
  rw [h.size]
  refine decide_eq_true ?_
  omega
 obtain⟨rfl,rfl,hlive⟩:c'=0∧q=some bd∧M.Live D' (V.add key true []):=by
  rcases hchg.is with h|h|h|h
  ·exact absurd hw0 h.1
  ·exact h.2
  ·rw [hfit] at h;exact absurd h.2.2.2.2 (by simp)
  ·exact absurd h.2.2.2.1 (hM _ ha.fuse)
 rw [if_pos rfl] at hn
 subst hn
 have hnn:V.n0+1≤2305843009213693952:=by omega
 exact⟨S',D',rfl,ha,h.aft ha hlive (by have:=ha.reads1;omega) hnn,ha.reads1⟩
theorem Q0(A:xo M)(hM:∀f,M.Fu f→f≠0)(h:xY M w0 w bp bd bs O S D V)(hr:D.reads≤1000000000000)(hn0:V.n0≤1000000)(hw:weight V.vs≤480)(key:ByteArray)(hk:zr key.data.toList=true)(num:Int)(hnum:zO num)(hfind:∃v∈V.vs,v.key=key∧v.num=num):
 Calls Tryz.prog 31 #[.pointer (some ⟨bs,0,none⟩),.string key,.int .i64 num] w fun e w'=>∃S' D',e=.returned (.int .i64 0)∧jr M w w' bd bs S S' D D' 40 (some bd)∧xY M w0 w' bp bd bs O S' D' (V.sub key num)∧D'.reads≤D.reads+40:=by
 have hks:=jK hk
 refine(A.live w bd bs S D V key num h.fore (by unfold maxLen;omega) hnum).mono ?_
 rintro e w' ⟨D',S',c',q,rfl,ha,hchg⟩
 have hw0:KX (zr key.data.toList) (xH V.vs key num)=0:=by
  rw [hk]
  cases hf:xH V.vs key num with
  |none=>obtain⟨v,hv,h1⟩:=hfind;exact absurd h1 (fZ hf v hv)
  |some v=>rfl
 have hfit:yW V.vs 0 D.bs.length=true:=by
  unfold yW
  rw [h.size]
  refine decide_eq_true ?_
  omega
 obtain⟨rfl,rfl,hlive⟩:c'=0∧q=some bd∧M.Live D' (V.sub key num):=by
  rcases hchg.is with h|h|h|h
  ·exact absurd hw0 h.1
  ·exact h.2
  ·rw [hfit] at h;exact absurd h.2.2.2.2 (by simp)
  ·exact absurd h.2.2.2.1 (hM _ ha.fuse)
 exact⟨S',D',rfl,ha,h.aft ha hlive (by have:=ha.reads1;omega) (by show V.n0≤_;omega),ha.reads1⟩
theorem cu(A:xg M)(h:xY M w0 w bp bd bs O S D V)(hr:D.reads≤1000000000000)(hlen:V.vs.length≤1000)(m:Nat)(m1:1≤m)(m2:m≤50):
 Calls Tryz.prog 20 #[.pointer (some ⟨bs,0,none⟩),.string ⟨#[]⟩,.int .i64 (m:Int)] w fun e w'=>∃S' D' a c L,e=.returned (.tuple #[.slice a L.length c,.bool true])∧jr M w w' bd bs S S' D D' 2000000 (some bd)∧xY M w0 w' bp bd bs O S' D' V∧D'.reads≤D.reads+2000000∧qX V.vs ByteArray.empty ByteArray.empty 0 L∧x9 w' S' bs 94 4 (.slice a L.length c) L.length (law.ql L):=by
 refine(Z7 M A w bd bs S D V h.fore ⟨#[]⟩ (.inl rfl) (by decide) m m1 m2 hlen hr).mono ?_
 rintro e w' ⟨D',S',a,c,L,rfl,ha,hl,hL,hrow,hnew⟩
 exact⟨S',D',a,c,L,rfl,ha,h.aft ha hl (by have:=ha.reads1;omega) h.fore.few,ha.reads1,hL,⟨hrow,fun k hk=>⟨(hnew k hk).2,by have:=(hnew k hk).1;have:=h.bs_lt;omega⟩⟩⟩
theorem yH.sit{X:Nat→Prop}{a:Option Addr}{cap:Nat}{cs:List (List Value)}{G:Nat→Prop}(h:yH M w X bp bd bs S D V a cap cs G)(hk:za (fun _=>False) w0 w)(hx:∀k,X k→w0.heap.size≤k):xY M w0 w bp bd bs (XP bd bs (.slice a V.vs.length cap) V.n0) S D V:=
 ⟨h.fore,h.head,h.pS,h.pb,fun k hk=>hx k (h.xS k hk),hx bs h.xb,hk.mono fE,h.size⟩
end
theorem gF{V:qF}(h:law.Good V)(key:ByteArray)(mark:Bool)(l:List UInt8):qh (V.add key mark l).vs key=some ⟨key,V.n0+1,mark,l⟩:=by
 unfold qh qF.add
 rw [List.foldl_append]
 show xZ key (qh V.vs key) _=_
 cases hn:qh V.vs key with
 |none=>unfold xZ;simp
 |some u=>
  obtain⟨h1,h2,_⟩:=yV hn
  have:=(h.num u h2).2
  unfold xZ
  exact if_pos ⟨rfl,(show u.num<V.n0+1 by omega)⟩
theorem Q1{V:qF}(h:∀v∈V.vs,v.num≤V.n0)(key:ByteArray)(mark:Bool)(l:List UInt8):(V.add key mark l).sub key (V.n0+1)=⟨V.vs,V.n0+1⟩:=by
 unfold qF.add qF.sub uW
 simp only [List.filter_append]
 congr 1
 rw [List.filter_eq_self.2 (fun v hv=>by have:=h v hv;simp;exact .inr (by omega))]
 simp
end keep
end Go.Proofs.YtcoengihaobddaaGreatDoor

/- Part 8 of 31 of a proof: Law8, Play, Law9, Law7 -/
import Derived.Test.YtcoengihaobddaaGreatDoorJl07
set_option maxHeartbeats 8000000
set_option linter.unusedVariables false
set_option linter.unusedSimpArgs false
set_option maxRecDepth 8000
namespace Go.Proofs.YtcoengihaobddaaGreatDoor
namespace law
open Go.ChangeShapes Go.WideShapes Go.ChangeAt Go.RowKit disk ref book
open keys (zj zd zy zq zt)
end law
namespace law
open Go.RowKit disk ref book
structure qu (M:zg) (w:World) (base bp t:Nat) (ones:List (Nat×(Nat→Prop))) (la:Option Addr) (lc:Nat) (F H:Nat→Prop) (a b:Option Addr) (ca cb:Nat) (es vs:List jo):Prop where
 row:w.ownsRow 0 120 1 (.slice la ones.length lc) ones.length (ones.map fun o=>yw o.1)
 book:ji w bp (.slice la ones.length lc) F H a b ca cb es vs
 one:∀i (hi:i<ones.length),One M w ones[i].2 ones[i].1 t
 apart:∀i j (hi:i<ones.length) (hj:j<ones.length),i≠j→∀k,ones[i].2 k→¬ones[j].2 k
 sep:∀i (hi:i<ones.length) k,ones[i].2 k→¬F k∧¬H k∧k≠bp
 rsep:∀i (hi:i<ones.length) k,ones[i].2 k→(Value.slice la ones.length lc).ownBlock≠some k
 rowF:∀k,(Value.slice la ones.length lc).ownBlock=some k→¬F k∧¬H k∧k≠bp∧base≤k
 bX:∀i (hi:i<ones.length) k,ones[i].2 k→base≤k
 bF:∀k,F k→base≤k
 bH:∀k,H k→base≤k
 bP:base≤bp
 fewE:es.length≤t
 fewV:vs.length≤t
 fewO:ones.length≤t
def xY(M:zg)(w:World)(base bp t:Nat):Prop:=∃ones la lc F H a b ca cb es vs,qu M w base bp t ones la lc F H a b ca cb es vs
theorem One.lt{M:zg}{w:World}{X:Nat→Prop}{bo t:Nat}(o:One M w X bo t):∀k,X k→k<w.heap.size:=by
 obtain⟨h,bd,D,S,R,ib,V,last,o⟩:=o;exact o.xlt
theorem qu.asked{M:zg}{w w':World}{base bp t:Nat}{ones:List (Nat×(Nat→Prop))}{la:Option Addr}{lc:Nat}{F H:Nat→Prop}{a b:Option Addr}{ca cb:Nat}{es vs:List jo}(p:qu M w base bp t ones la lc F H a b ca cb es vs)(hbase:base≤w.heap.size)(i:Nat)(hi:i<ones.length)
 {e:Ending} (s:Vz M w w' ones[i].2 ones[i].1 t bp (.slice la ones.length lc) F H b cb es vs e):e=.returned (.bool true)∧xY M w' base bp (t+1)∧za (fun k=>base≤k) w w':=by
 obtain⟨hret,⟨X',F',a',ca',es',hone,hbook,hes,hX',hF',hXF⟩,hk⟩:=s
 have hxlt:∀j (hj:j<ones.length) k,ones[j].2 k→k<w.heap.size:=fun j hj=>(p.one j hj).lt
 have hrlt:∀k,(Value.slice la ones.length lc).ownBlock=some k→k<w.heap.size:=fun k hk=>(p.row.lt k hk).2
 have hget:∀j (hj:j<(ones.set i (ones[i].1,X')).length),(j=i∧(ones.set i (ones[i].1,X'))[j]=(ones[i].1,X'))∨(∃hj':j<ones.length,j≠i∧(ones.set i (ones[i].1,X'))[j]=ones[j]):=fun j hj=>by
  by_cases e1:j=i
  ·subst e1;exact .inl ⟨rfl,by simp⟩
  ·exact .inr ⟨by simpa using hj,e1,List.getElem_set_ne (Ne.symm e1) _⟩
 have hlen:(ones.set i (ones[i].1,X')).length=ones.length:=List.length_set ..
 have hfl:=p.book.flt
 refine⟨hret,⟨ones.set i (ones[i].1,X'),la,lc,F',H,a',b,ca',cb,es',vs,?_,?_,fun j hj=>?_,fun j k hj hk' hjk x hx=>?_,fun j hj x hx=>?_,fun j hj x hx=>?_,fun k hk'=>?_,fun j hj x hx=>?_,fun k hk'=>?_,p.bH,p.bP,?_,?_,?_⟩,⟨hk.os,hk.tape,hk.output,hk.size,fun k hk1 hk2=>hk.block k hk1 (fun hc=>hk2 ?_)⟩⟩
 ·rw [hlen]
  have e1:(ones.set i (ones[i].1,X')).map (fun o=>yw o.1)=ones.map fun o=>yw o.1:=by
   rw [List.map_set]
   apply List.ext_getElem (by simp)
   intro j h1 h2
   simp only [List.getElem_set,List.getElem_map]
   split
   next e2=>subst e2;rfl
   next=>rfl
  rw [e1]
  exact hk.owns p.row (fun k hk1 hc=>by
   have h1:=p.rowF k hk1
   rcases hc with hc|hc|hc
   ·exact p.rsep i hi k hc hk1
   ·exact h1.1 hc
   ·exact h1.2.2.1 hc)
 ·rw [hlen];exact hbook
 ·rcases hget j hj with⟨e1,e2⟩|⟨hj',e1,e2⟩
  ·subst e1;rw [e2];exact hone
  ·rw [e2]
   refine((p.one j hj').kept hk (fun k hk1 hc=>?_)).later (by omega)
   rcases hc with hc|hc|hc
   ·exact p.apart i j hi hj' (Ne.symm e1) k hc hk1
   ·exact(p.sep j hj' k hk1).1 hc
   ·exact(p.sep j hj' k hk1).2.2 hc
 ·rcases hget j hj with⟨e1,e2⟩|⟨hj',e1,e2⟩<;>rcases hget k hk' with⟨e3,e4⟩|⟨hk'',e3,e4⟩<;>rw [e2] at hx<;>rw [e4]
  ·omega
  ·intro hc
   rcases hX' x hx with h1|h1
   ·exact p.apart i k hi hk'' (Ne.symm e3) x h1 hc
   ·have:=hxlt k hk'' x hc;omega
  ·intro hc
   rcases hX' x hc with h1|h1
   ·exact p.apart j i hj' hi e1 x hx h1
   ·have:=hxlt j hj' x hx;omega
  ·exact p.apart j k hj' hk'' hjk x hx
 ·rcases hget j hj with⟨e1,e2⟩|⟨hj',e1,e2⟩<;>rw [e2] at hx
  ·exact hXF x hx
  ·refine⟨fun hc=>?_,(p.sep j hj' x hx).2.1,(p.sep j hj' x hx).2.2⟩
   rcases hF' x hc with h1|h1
   ·exact(p.sep j hj' x hx).1 h1
   ·have:=hxlt j hj' x hx;omega
 ·rw [hlen]
  intro hc
  rcases hget j hj with⟨e1,e2⟩|⟨hj',e1,e2⟩<;>rw [e2] at hx
  ·rcases hX' x hx with h1|h1
   ·exact p.rsep i hi x h1 hc
   ·have:=hrlt x hc;omega
  ·exact p.rsep j hj' x hx hc
 ·rw [hlen] at hk'
  have h1:=p.rowF k hk'
  refine⟨fun hc=>?_,h1.2⟩
  rcases hF' k hc with h2|h2
  ·exact h1.1 h2
  ·have:=hrlt k hk';omega
 ·rcases hget j hj with⟨e1,e2⟩|⟨hj',e1,e2⟩<;>rw [e2] at hx
  ·rcases hX' x hx with h1|h1
   ·exact p.bX i hi x h1
   ·omega
  ·exact p.bX j hj' x hx
 ·rcases hF' k hk' with h1|h1
  ·exact p.bF k h1
  ·omega
 ·have:=p.fewE;omega
 ·have:=p.fewV;omega
 ·rw [hlen];have:=p.fewO;omega
 ·rcases hc with hc|hc|hc
  ·exact p.bX i hi k hc
  ·exact p.bF k hc
  ·rw [hc];exact p.bP
theorem qu.stepped{M:zg}{w w':World}{base bp t:Nat}{ones:List (Nat×(Nat→Prop))}{la:Option Addr}{lc:Nat}{F H:Nat→Prop}{a b:Option Addr}{ca cb:Nat}{es vs:List jo}(p:qu M w base bp t ones la lc F H a b ca cb es vs)(hbase:base≤w.heap.size)(i:Nat)(hi:i<ones.length)
 {e:Ending} (s:Stepped M w w' ones[i].2 ones[i].1 t e):e=.returned (.bool true)∧xY M w' base bp (t+1)∧za (fun k=>base≤k) w w':=by
 obtain⟨X',hone,hX'⟩:=s.one
 refine p.asked hbase i hi ⟨s.ret,⟨X',F,a,ca,es,hone,p.book.kept s.kept (fun k hk hc=>(p.sep i hi k hc).1 hk) (fun k hk hc=>(p.sep i hi k hc).2.1 hk) (fun hc=>(p.sep i hi bp hc).2.2 rfl),by omega,hX',fun k hk=>.inl hk,fun k hk=>?_⟩,s.kept.mono (fun k hk=>.inl hk)⟩
 rcases hX' k hk with h1|h1
 ·exact p.sep i hi k h1
 ·exact⟨fun hc=>by have:=p.book.flt k hc;omega,fun hc=>by have:=p.book.hlt k hc;omega,fun hc=>by have:=p.book.head.lt;omega⟩
theorem qu.idle{M:zg}{w w':World}{base bp t:Nat}{ones:List (Nat×(Nat→Prop))}{la:Option Addr}{lc:Nat}{F H:Nat→Prop}{a b:Option Addr}{ca cb:Nat}{es vs:List jo}(p:qu M w base bp t ones la lc F H a b ca cb es vs)(k:za (fun _=>False) w w'):xY M w' base bp (t+1)∧za (fun k=>base≤k) w w':=
 ⟨⟨ones,la,lc,F,H,a,b,ca,cb,es,vs,k.owns p.row nF,p.book.kept k nF nF (fun hf=>hf),fun i hi=>((p.one i hi).kept k nF).later (by omega),p.apart,p.sep,p.rsep,p.rowF,p.bX,p.bF,p.bH,p.bP,by have:=p.fewE;omega,by have:=p.fewV;omega,by have:=p.fewO;omega⟩,k.mono fE⟩
theorem qu.push{M:zg}{w w5:World}{base bp t:Nat}{ones:List (Nat×(Nat→Prop))}{la:Option Addr}{lc:Nat}{F H:Nat→Prop}{a b:Option Addr}{ca cb:Nat}{es vs:List jo}(p:qu M w base bp t ones la lc F H a b ca cb es vs)(hbase:base≤w.heap.size)(bo:Nat)(X:Nat→Prop)(g c:Nat)
 (hown:w5.ownsRow 0 120 1 (.slice (some ⟨g,0,none⟩) (ones.length+1) c) (ones.length+1) (ones.map (fun o=>yw o.1)++[yw bo])) (k5:za (fun k=>(Value.slice la ones.length lc).ownBlock=some k) w w5) (hat:(Value.slice la ones.length lc).ownBlock=some g∨w.heap.size≤g)
 (hone:One M w5 X bo (t+1)) (hX:∀k,X k→w.heap.size≤k∧k≠g):
 xY M (w5.setCell ⟨bp,0,none⟩ (.slice (some ⟨g,0,none⟩) (ones.length+1) c)) base bp (t+1)∧za (fun k=>base≤k) w (w5.setCell ⟨bp,0,none⟩ (.slice (some ⟨g,0,none⟩) (ones.length+1) c)):=by
 have k6:=za.setCell (S:=fun k=>k=bp) w5 ⟨bp,0,none⟩ (.slice (some ⟨g,0,none⟩) (ones.length+1) c) rfl
 have hbp:=p.book.head.lt
 have hxlt:∀j (hj:j<ones.length) k,ones[j].2 k→k<w.heap.size:=fun j hj=>(p.one j hj).lt
 have hlen:(ones++[(bo,X)]).length=ones.length+1:=by simp
 have hfl:=p.book.flt
 have hhl:=p.book.hlt
 have hgF:¬F g∧¬H g∧g≠bp∧base≤g:=by
  rcases hat with h1|h1
  ·exact p.rowF g h1
  ·exact⟨fun hc=>by have:=hfl g hc;omega,fun hc=>by have:=hhl g hc;omega,by omega,by omega⟩
 have hcase:∀i (hi:i<(ones++[(bo,X)]).length),(∃hi':i<ones.length,(ones++[(bo,X)])[i]=ones[i])∨(i=ones.length∧(ones++[(bo,X)])[i]=(bo,X)):=fun i hi=>by
  by_cases h1:i<ones.length
  ·exact .inl ⟨h1,List.getElem_append_left h1⟩
  ·right
   have e1:i=ones.length:=by omega
   subst e1
   exact⟨rfl,by simp⟩
 have hb5:=p.book.kept k5 (fun k hk hc=>(p.rowF k hc).1 hk) (fun k hk hc=>(p.rowF k hc).2.1 hk) (fun hc=>(p.rowF bp hc).2.2.1 rfl)
 refine⟨⟨ones++[(bo,X)],some ⟨g,0,none⟩,c,F,H,a,b,ca,cb,es,vs,?_,?_,fun j hj=>?_,fun j k hj hk' hjk x hx=>?_,fun j hj x hx=>?_,fun j hj x hx=>?_,fun k hk'=>?_,fun j hj x hx=>?_,p.bF,p.bH,p.bP,by have:=p.fewE;omega,by have:=p.fewV;omega,by rw [hlen];have:=p.fewO;omega⟩,
  ((k5.mono (fun k hk=>(p.rowF k hk).2.2.2)).trans k6 (fun k hk=>.inl (by rw [hk];exact p.bP)))⟩
 ·rw [hlen,List.map_append]
  exact k6.owns hown (fun k hk e1=>by simp [Value.ownBlock] at hk;have:=hgF.2.2.1;omega)
 ·rw [hlen]
  have hb6:qW (w5.setCell ⟨bp,0,none⟩ (.slice (some ⟨g,0,none⟩) (ones.length+1) c)) bp (.slice (some ⟨g,0,none⟩) (ones.length+1) c) (.slice a es.length ca) (.slice b vs.length cb):=⟨by rw [heap_setCell_same w5 bp 0 _ _ _ hb5.head.head];rfl⟩
  exact⟨hb6,hb5.bytes.kept k6 (fun i hi e1=>hb5.fbp (by rw [←e1];exact hi)),hb5.rows.kept k6 (fun i hi e1=>hb5.hbp (by rw [←e1];exact hi)),hb5.fbp,hb5.hbp,hb5.apart,hb5.few,hb5.few2,fun i hi=>Nat.lt_of_lt_of_le (hb5.flt i hi) k6.size,fun i hi=>Nat.lt_of_lt_of_le (hb5.hlt i hi) k6.size⟩
 ·rcases hcase j hj with⟨hj',e2⟩|⟨e1,e2⟩<;>rw [e2]
  ·exact(((p.one j hj').kept k5 (fun k hk hc=>p.rsep j hj' k hk hc)).kept k6 (fun k hk hc=>(p.sep j hj' k hk).2.2 hc)).later (by omega)
  ·exact hone.kept k6 (fun k hk hc=>by have:=(hX k hk).1;omega)
 ·rcases hcase j hj with⟨hj',e2⟩|⟨e1,e2⟩<;>rcases hcase k hk' with⟨hk'',e4⟩|⟨e3,e4⟩<;>rw [e2] at hx<;>rw [e4]
  ·exact p.apart j k hj' hk'' hjk x hx
  ·intro hc;have:=(hX x hc).1;have:=hxlt j hj' x hx;omega
  ·intro hc;have:=(hX x hx).1;have:=hxlt k hk'' x hc;omega
  ·omega
 ·rcases hcase j hj with⟨hj',e2⟩|⟨e1,e2⟩<;>rw [e2] at hx
  ·exact p.sep j hj' x hx
  ·have h1:=(hX x hx).1
   exact⟨fun hc=>by have:=hfl x hc;omega,fun hc=>by have:=hhl x hc;omega,by omega⟩
 ·rw [hlen]
  simp only [Value.ownBlock,ne_eq,Option.some.injEq]
  intro e3
  rcases hcase j hj with⟨hj',e2⟩|⟨e1,e2⟩<;>rw [e2] at hx
  ·rcases hat with h1|h1
   ·exact p.rsep j hj' x hx (by rw [←e3];exact h1)
   ·have:=hxlt j hj' x hx;omega
  ·exact(hX x hx).2 e3.symm
 ·rw [hlen] at hk'
  simp only [Value.ownBlock,Option.some.injEq] at hk'
  rw [←hk'];exact hgF
 ·rcases hcase j hj with⟨hj',e2⟩|⟨e1,e2⟩<;>rw [e2] at hx
  ·exact p.bX j hj' x hx
  ·have:=(hX x hx).1;omega
end law
namespace law
open Go.ChangeShapes Go.WideShapes Go.ChangeAt Go.RowKit disk ref book
open keys (zj zd zy zq zt)
theorem Tryz.infoPone:(Tryz.prog.info? 120).map (fun i=>(i.zero,i.size,i.bytes))=some (some (.pointer none),1,8):=by kernel_rfl
theorem gx(w:World)(a b c:Obj):(((w.alloc a).alloc b).alloc c).heap[w.heap.size+1+1]? =some c:=by
 have:=heap_alloc_new ((w.alloc a).alloc b) c;simpa using this
theorem xZ(S:Nat→Prop)(w:World)(a b c:Obj):za S w (((w.alloc a).alloc b).alloc c):=((za.alloc S w a).trans (za.alloc S _ b) iL).trans (za.alloc S _ c) iL
def dw(c n:Int):Int:=if c<0 then (-(c+1)).tmod n else c.tmod n
theorem Ji(c n:Int)(hn:0<n):0≤dw c n∧dw c n<n:=by
 unfold dw
 split
 ·exact⟨Int.tmod_nonneg n (by omega),Int.tmod_lt_of_pos _ hn⟩
 ·exact⟨Int.tmod_nonneg n (by omega),Int.tmod_lt_of_pos _ hn⟩
theorem Jj(w:World)(c n:Int)(hc:zY c)(hn:0<n)(hn2:n≤9223372036854775807):
 Calls Tryz.prog 58 #[.int .i64 c,.int .i64 n] w fun e w'=>e=.returned (.int .i64 (dw c n))∧w'=w:=by
 obtain⟨h1,h2⟩:=hc
 by_cases h:c<0
 ·have hp:dw c n=(-(c+1)).tmod n:=if_pos h
  have g3:(-(c+1)).tmod n= -((c+1).tmod n):=Int.neg_tmod ..
  have HPI:Hid _:=hp
  have HG:Hid _:=g3
  clear hp g3
  go_enter Tryz.func58,Tryz.ntmps58
  go_wp2
  go_ret
  exact⟨zj (by rw [HPI.out];first|rfl|rw [HG.out]),rfl⟩
 ·have hp:dw c n=c.tmod n:=if_neg h
  have g3:c.tmod n=c%n:=Int.tmod_eq_emod_of_nonneg (by omega)
  have HPI:Hid _:=hp
  have HG:Hid _:=g3
  clear hp g3
  go_enter Tryz.func58,Tryz.ntmps58
  go_wp2
  go_ret
  exact⟨zj (by rw [HPI.out];first|rfl|rw [HG.out]),rfl⟩
theorem KM(c n:Int)(hc:zY c)(hn:0<n)(hn2:n≤9223372036854775807):∃i:Nat,(i:Int)<n∧∀w,Calls Tryz.prog 58 #[.int .i64 c,.int .i64 n] w fun e w'=>e=.returned (.int .i64 (i:Int))∧w'=w:=by
 obtain⟨b1,b2⟩:=Ji c n hn
 obtain⟨i,hi⟩:=Int.eq_ofNat_of_zero_le b1
 exact⟨i,by omega,fun w=>by rw [←hi];exact Jj w c n hc hn hn2⟩
def gy(bd bs rb:Nat):qn:=⟨yw bd,yw bs,yw rb,.pointer none,.string ByteArray.empty,.int .i64 0,.bool false,.slice none 0 0,0,0,false⟩
theorem KN(M:zg)(w1 w2 w5:World)(bd bs B:Nat)(S2 T:Nat→Prop)(D2:Dk)(o:Obj)(t:Nat)(hd:zh w2 bd S2 D2)(hSbs:¬S2 bs)(sto:M.Sto w2 bs (some bd))(live:M.Live D2 ⟨[],0⟩)(hr0:0≤D2.reads)(hr1:D2.reads≤2000)(fu:M.Fu D2.fuse)
 (k5:za T (((w2.alloc (.cells #[.slice none 0 0,.int .i64 0] 164)).alloc (.cells (gy bd bs w2.heap.size).cells 125)).alloc o) w5) (hT:∀k,T k→k<B) (hS:∀k,S2 k→B≤k) (hbs:B≤bs) (hB:B≤w2.heap.size):
 One M w5 (fun k=>S2 k∨k=bs∨k=w2.heap.size∨k=w2.heap.size+1) (w2.heap.size+1) (t+1):=by
 have k3:=xZ T w2 (.cells #[.slice none 0 0,.int .i64 0] 164) (.cells (gy bd bs w2.heap.size).cells 125) o
 have k25:=k3.trans k5 iL
 have hsl:=M.sto_lt _ _ _ sto
 have hSl:∀k,S2 k→k<w2.heap.size:=fun k hk=>hd.lt k hk
 have hb1:(((w2.alloc (.cells #[.slice none 0 0,.int .i64 0] 164)).alloc (.cells (gy bd bs w2.heap.size).cells 125)).alloc o).heap[w2.heap.size]? =some (.cells #[.slice none 0 0,.int .i64 0] 164 (0,0)):=by
  have e1:=(za.alloc (fun _=>False) ((w2.alloc (.cells #[.slice none 0 0,.int .i64 0] 164)).alloc (.cells (gy bd bs w2.heap.size).cells 125)) o).block w2.heap.size (by simp;omega) (fun hf=>hf)
  have e2:=(za.alloc (fun _=>False) (w2.alloc (.cells #[.slice none 0 0,.int .i64 0] 164)) (.cells (gy bd bs w2.heap.size).cells 125)).block w2.heap.size (by simp) (fun hf=>hf)
  rw [e1,e2];exact heap_alloc_new w2 _
 have hb2:(((w2.alloc (.cells #[.slice none 0 0,.int .i64 0] 164)).alloc (.cells (gy bd bs w2.heap.size).cells 125)).alloc o).heap[w2.heap.size+1]? =some (.cells (gy bd bs w2.heap.size).cells 125 (0,0)):=by
  have e1:=(za.alloc (fun _=>False) ((w2.alloc (.cells #[.slice none 0 0,.int .i64 0] 164)).alloc (.cells (gy bd bs w2.heap.size).cells 125)) o).block (w2.heap.size+1) (by simp) (fun hf=>hf)
  rw [e1]
  have:=heap_alloc_new (w2.alloc (.cells #[.slice none 0 0,.int .i64 0] 164)) (.cells (gy bd bs w2.heap.size).cells 125)
  simpa using this
 have hs5:=k5.size
 have hs3:(((w2.alloc (.cells #[.slice none 0 0,.int .i64 0] 164)).alloc (.cells (gy bd bs w2.heap.size).cells 125)).alloc o).heap.size=w2.heap.size+3:=by simp
 have href:zQ (((w2.alloc (.cells #[.slice none 0 0,.int .i64 0] 164)).alloc (.cells (gy bd bs w2.heap.size).cells 125)).alloc o) (fun k=>k=w2.heap.size) (fun k=>k=w2.heap.size) w2.heap.size [] 0:=
  ⟨none,0,[],hb1,World.ownsRow_nil _ _ _ _,yF.nil _ _,rfl,fun k hk=>(by cases hk),by simp [Value.ownBlock]⟩
 refine⟨gy bd bs w2.heap.size,bd,D2,S2,fun k=>k=w2.heap.size,w2.heap.size,⟨[],0⟩,0,⟨(k5.block _ (by rw [hs3];omega) (fun hc=>by have:=hT _ hc;omega)).trans hb2⟩,rfl,rfl,hd.kept k25 (fun i hi hc=>by have:=hT i hc;have:=hS i hi;omega),
  href.kept k5 (fun i hi hc=>by have:=hT i hc;omega) (fun i hi hc=>by have:=hT i hc;omega),fun k hk=>.inl hk,fun k hk=>⟨.inr (.inr (.inl hk)),fun hc=>by have:=hSl k hc;omega,by omega⟩,.inr (.inr (.inr rfl)),fun hc=>by have:=hSl _ hc;omega,fun k hk=>?_,Int.le_refl _,fun v hv=>(by cases hv),Int.le_refl _,Int.le_refl _,Int.le_refl _,?_,hr0,by omega,fu,live.good,live.big,
  .live bs rfl (.inr (.inl rfl)) hSbs (by omega) (by omega) (M.sto_kept _ _ _ _ _ sto k25 (fun hc=>by have:=hT _ hc;omega)) rfl rfl live⟩
 ·rcases hk with hk|hk|hk|hk
  ·have:=hSl k hk;omega
  ·omega
  ·omega
  ·omega
 ·show (0:Int)+0≤((t+1:Nat):Int);omega
theorem cL(M:zg)(A:kw M)(hnd:∀f,M.Fu f→f≠0)(w:World)(base bp t:Nat)(ones:List (Nat×(Nat→Prop)))(la:Option Addr)(lc:Nat)(F H:Nat→Prop)(a b:Option Addr)(ca cb:Nat)(es vs:List jo)(p:qu M w base bp t ones la lc F H a b ca cb es vs)(hbase:base≤w.heap.size)(ht:t≤2199023255552)
 (od:yf) (Q:Nat→Prop) (hop:od.Ok w Q) (hC:od.C≤0):
 Calls Tryz.prog 56 #[.pointer (some ⟨bp,0,none⟩),.agg #[.int .i64 od.kind,.int .i64 od.A,.int .i64 od.B,.int .i64 od.C,.string od.S,.string od.P,.slice od.la od.l.length od.lc,.slice od.ka od.ks.length od.kc]] w fun e w'=>e=.returned (.bool true)∧xY M w' base bp (t+1)∧za (fun k=>base≤k) w w':=by
 have k0:za (fun _=>False) w (w.alloc (.cells #[.int .i64 od.kind,.int .i64 od.A,.int .i64 od.B,.int .i64 od.C,.string od.S,.string od.P,.slice od.la od.l.length od.lc,.slice od.ka od.ks.length od.kc] 81)):=za.alloc _ _ _
 have hb0:yS (w.alloc (.cells #[.int .i64 od.kind,.int .i64 od.A,.int .i64 od.B,.int .i64 od.C,.string od.S,.string od.P,.slice od.la od.l.length od.lc,.slice od.ka od.ks.length od.kc] 81)) w.heap.size od:=⟨heap_alloc_new w _⟩
 have hq2:=hb0.c2
 have HB0:Hid _:=hb0
 have HOP:Hid _:=hop
 have HP:Hid _:=p
 have K0:Hid _:=k0
 have HND:Hid _:=hnd
 have hs1:(w.alloc (.cells #[.int .i64 od.kind,.int .i64 od.A,.int .i64 od.B,.int .i64 od.C,.string od.S,.string od.P,.slice od.la od.l.length od.lc,.slice od.ka od.ks.length od.kc] 81)).heap.size=w.heap.size+1:=by simp
 have HS1:Hid _:=hs1
 clear k0 hb0 hop p hnd hs1
 generalize hW0:w.alloc (.cells #[.int .i64 od.kind,.int .i64 od.A,.int .i64 od.B,.int .i64 od.C,.string od.S,.string od.P,.slice od.la od.l.length od.lc,.slice od.ka od.ks.length od.kc] 81)=w0 at*
 go_enter Tryz.func56,Tryz.ntmps56
 go_wp2_with fail
 refine(xW _ od.B HOP.out.B).mono ?_
 rintro e w1 ⟨rfl,hd1,hk1⟩
 rw [HS1.out] at hd1 ⊢
 have hb1:=HB0.out.kept hk1 (fun hf=>hf)
 have hq3:=hb1.c3
 have HD1:Hid _:=hd1
 have HK1:Hid _:=hk1
 have HB1:Hid _:=hb1
 clear hd1 hk1 hb1
 by_cases hsm:jp od.B<64
 ·go_wp2_with fail
  refine(A.small _ _ _ _ HD1.out (by simpa [Dk.fresh] using hsm)).mono ?_
  rintro e w2 ⟨rfl,hd2,hk2⟩
  have HD2:Hid _:=hd2
  have HK2:Hid _:=hk2
  clear hd2 hk2
  obtain⟨xa,xp,xbc,xpc,hdk⟩:=HD2.out
  have HDK:Hid _:=hdk
  clear hdk
  go_wp2_with fail
  refine(xC _ _ _ _ xa xp xbc xpc HDK.out).mono ?_
  rintro e w9 ⟨rfl,hw9⟩
  rw [hw9]
  clear hw9 w9
  have hlt:(((Dk.fresh (jp od.B)).bs.length:Nat):Int)<64:=by simp [Dk.fresh];omega
  generalize (Dk.fresh (jp od.B)).bs.length=nn at*
  go_wp2
  go_ret
  exact⟨rfl,HP.out.idle ((K0.out.trans HK1.out iL).trans HK2.out iL)⟩
 ·go_wp2_with fail
  have hcould:M.Could (Dk.fresh (jp od.B)) (fun U=>U=⟨[],0⟩):=by
   have h1:jp od.B≤1000:=by unfold jp;split<;>omega
   exact⟨by simp [Dk.fresh],by simp [Dk.fresh];omega,fun ks=>⟨_,rfl,M.zeros (jp od.B) (by omega) h1⟩⟩
  refine(A.big _ _ _ _ _ HD1.out hcould M.fu_neg (by simp [Dk.fresh]) (by simp [Dk.fresh])).mono ?_
  rintro e w2 ⟨D2,S2,hopd,hout⟩
  rcases hout with⟨bs,V,rfl,hbs,hSbs,hsto,rfl,hlive⟩|⟨_,hf0,_⟩
  ·have kw2:za (fun _=>False) w w2:=(K0.out.trans HK1.out iL).trans hopd.kept (fun k hk=>.inr (by rcases hk with hk|hk<;>omega))
   have hc0:=(HP.out.book.head.kept kw2 (fun hf=>hf)).c.1
   have hf0:=(HP.out.book.head.kept kw2 (fun hf=>hf)).c.2.2.2 0
   have hbp2:=(HP.out.book.head.kept kw2 (fun hf=>hf)).lt
   have hsz:D2.bs.length=jp od.B:=by have:=hopd.size;simpa [Dk.fresh] using this
   have hrd0:0≤D2.reads:=by have:=hopd.reads0;simpa [Dk.fresh] using this
   have hrd1:D2.reads≤2*D2.bs.length:=by have:=hopd.reads1;rw [hsz];simpa [Dk.fresh] using this
   have hfew:D2.bs.length≤1000:=hopd.disk.ok.few
   have hge:(64:Int)≤D2.bs.length:=by omega
   have hrow2:=kw2.owns HP.out.row nF
   have HRW:Hid (w2.ownsRow 0 120 1 (.slice la ones.length lc) ones.length (ones.map fun o=>yw o.1)):=hrow2
   have HOPD:Hid _:=hopd
   have HKW:Hid _:=kw2
   have HLI:Hid _:=hlive
   have HST:Hid _:=hsto
   have HBS:Hid _:=(⟨hbs,hSbs⟩:_∧_)
   obtain⟨i0,hi0,hz0,hz1,hz2⟩:=yN Tryz.infoPone
   have HI0:Hid (Tryz.prog.info? 120=some i0∧i0.zero=some (.pointer none)∧i0.size=1∧i0.bytes=8):=⟨hi0,hz0,hz1,hz2⟩
   have hfo:=HP.out.fewO
   clear hi0 hz0 hz1 hz2 hopd kw2 hlive hsto hbs hSbs hrow2 hsz hcould hsm
   obtain⟨xa,xp,xbc,xpc,hdk⟩:=HOPD.out.disk
   have HDK:Hid _:=hdk
   clear hdk
   go_wp2_with (first
    |(go_at_call 54;refine(xC _ _ _ _ xa xp xbc xpc HDK.out).mono ?_;rintro e w9 ⟨rfl,hw9⟩;rw [hw9];clear hw9 w9)
    |(go_at_call 86;refine(yc _ _ _ _ xa xp xbc xpc HDK.out).mono ?_;rintro e w9 ⟨rfl,hw9⟩;rw [hw9];clear hw9 w9)
    |(refine wpList_append_lies _ rfl (.tmp 52) (.tmp 54) 73 rfl 0 120 i0 _ 1 8 Tryz.underlying73 HI0.out.1 HI0.out.2.1 HI0.out.2.2.1 HI0.out.2.2.2 rfl (by omega) (.slice la ones.length lc) ones.length (ones.map fun o=>yw o.1) (by rfl) (by exact World.ownsRow.alloc (World.ownsRow.alloc (World.ownsRow.alloc HRW.out _) _) _) ⟨w2.heap.size+1+1,0,none⟩ 1 1 [yw (w2.heap.size+1)] (by rfl) (by rfl) (by exact World.news_of_block (gx w2 _ _ _)) (by simp [Value.oneCell',yw]) (by omega) (by unfold maxLen;omega) (by omega) (Nat.zero_le _) _ rfl ?_;intro g c5 w5 hown5 hgrow5 hat5 hlt5;have HO5:Hid _:=hown5;have HG5:Hid _:=hgrow5;have HT5:Hid _:=hat5;have hc5:w5.cell? ⟨bp,0,none⟩=some (.slice la ones.length lc):=(hgrow5.cell_far ⟨bp,0,none⟩ (by simp;omega) (fun e=>(HP.out.rowF bp e.symm).2.2.1 rfl)).trans (((xZ (fun _=>False) w2 _ _ _).cell (a:=⟨bp,0,none⟩) hbp2 (fun hf=>hf)).trans hc0);have hf5:w5.frozen? ⟨bp,0,none⟩=false:=(hgrow5.frozen_far ⟨bp,0,none⟩ (by simp;omega) (fun e=>(HP.out.rowF bp e.symm).2.2.1 rfl)).trans (((xZ (fun _=>False) w2 _ _ _).frozen (a:=⟨bp,0,none⟩) hbp2 (fun hf=>hf)).trans hf0);clear hown5 hgrow5 hat5))
   go_ret
   have hS2:∀k,S2 k→w.heap.size≤k:=fun k hk=>by
    have h1:=HK1.out.size
    have h2:=HS1.out
    rcases HOPD.out.foot k hk with h3|h3
    ·rcases h3 with h3|h3<;>omega
    ·omega
   have hbsl:=M.sto_lt _ _ _ HST.out
   have hw12:w.heap.size≤bs:=by have h1:=HK1.out.size;have h2:=HS1.out;have h3:=HBS.out.1;omega
   have hww:w.heap.size≤w2.heap.size:=HKW.out.size
   have hrow:∀k,(Value.slice la ones.length lc).ownBlock=some k→k<w.heap.size:=fun k hk=>(HP.out.row.lt k hk).2
   have k5:=za.grown (S:=fun k=>(Value.slice la ones.length lc).ownBlock=some k) HG5.out (fun k hk=>hk)
   have hno:=KN M w1 w2 w5 _ bs w.heap.size S2 _ D2 _ t HOPD.out.disk HBS.out.2 HST.out HLI.out hrd0 (by omega) HOPD.out.fuse k5 hrow hS2 hw12 hww
   exact⟨rfl,HP.out.push hbase (w2.heap.size+1) _ g c5 HO5.out ((HKW.out.mono fE).trans ((xZ _ w2 _ _ _).trans k5 iL) iL) (HT5.out.imp id (fun e1=>by simp at e1;omega)) hno (fun k hk=>by
    have hgk:k≠g:=fun e1=>by
     rcases HT5.out with e2|e2
     ·have h1:=hrow g e2
      rcases hk with hk|hk|hk|hk
      ·have:=hS2 k hk;omega
      ·omega
      ·omega
      ·omega
     ·simp at e2
      rcases hk with hk|hk|hk|hk
      ·have:=HOPD.out.disk.lt k hk;omega
      ·omega
      ·omega
      ·omega
    refine⟨?_,hgk⟩
    rcases hk with hk|hk|hk|hk
    ·exact hS2 k hk
    ·omega
    ·omega
    ·omega)⟩
  ·exact absurd hf0 (HND.out _ hopd.fuse)
end law
end Go.Proofs.YtcoengihaobddaaGreatDoor

/- Part 11 of 31 of a proof: Book6, Call1 -/
import Derived.Test.YtcoengihaobddaaGreatDoorJl10
set_option maxHeartbeats 8000000
set_option linter.unusedVariables false
set_option linter.unusedSimpArgs false
set_option maxRecDepth 8000
namespace Go.Proofs.YtcoengihaobddaaGreatDoor
namespace law
open Go.ChangeShapes Go.WideShapes Go.ChangeAt Go.RowKit disk ref book
open keys (zj zd zy zq)
def gc(q m:Nat):List Value:=(List.replicate m (qy q)).flatten
def Vu(W w:World)(X:Value)(n g c m:Nat):Prop:=(X=.slice (some ⟨g,0,none⟩) n c∧m≤c)∨(W.heap.size≤g∧∃cur,w.heap[g]? =some (.cells cur 94 (0,0))∧m*4≤cur.size)
structure Vv (W:World) (X:Value) (n:Nat) (xs:List Value) (q:Nat) (L:Nat→Bool) (x:Nat→Value) (w:World):Prop where
 mv:∀i,(i=0∨i=1∨i=5∨i=10)→L i=true→x i=X
 ld:∀i,(i=2∨i=6∨i=7∨i=11∨i=12∨i=13)→L i=true→x i=.agg (qy q).toArray
 bs:∀i m,((i=3∧m=1)∨(i=8∧m=2)∨(i=14∧m=3))→L i=true→∃b,x i=.slice (some ⟨b,0,none⟩) m m∧W.heap.size≤b∧w.heap[b]? =some (.cells (gc q m).toArray 94 (0,0))
 ap:∀i m,((i=4∧m=1)∨(i=9∧m=2)∨(i=15∧m=3))→L i=true→∃g c,x i=.slice (some ⟨g,0,none⟩) (n+m) c∧Vu W w X n g c (n+m)
 fin:L 16=true→L 4=true∧L 9=true∧L 15=true∧∃b,x 16=.slice (some ⟨b,0,none⟩) 4 4∧W.heap.size≤b∧w.heap[b]? =some (.cells #[X,x 4,x 9,x 15] 44 (0,0))
 asg:L 17=true→L 16=true∧x 17=x 16
 row:w.ownsRow 0 94 4 X n xs
 kept:za (fun k=>X.ownBlock=some k) W w
theorem Vv.step{W:World}{X:Value}{n:Nat}{xs:List Value}{q:Nat}{L:Nat→Bool}{x:Nat→Value}{w:World}(h:Vv W X n xs q L x w)(i:Nat)(hi:L i=false)(v:Value)(w':World)(hk:za (fun k=>X.ownBlock=some k) w w')(hrow:w'.ownsRow 0 94 4 X n xs)(hlt:∀k,X.ownBlock=some k→k<W.heap.size)
 (hmv:(i=0∨i=1∨i=5∨i=10)→v=X)
 (hld:(i=2∨i=6∨i=7∨i=11∨i=12∨i=13)→v=.agg (qy q).toArray)
 (hbs:∀m,((i=3∧m=1)∨(i=8∧m=2)∨(i=14∧m=3))→∃b,v=.slice (some ⟨b,0,none⟩) m m∧W.heap.size≤b∧w'.heap[b]? =some (.cells (gc q m).toArray 94 (0,0)))
 (hap:∀m,((i=4∧m=1)∨(i=9∧m=2)∨(i=15∧m=3))→∃g c,v=.slice (some ⟨g,0,none⟩) (n+m) c∧Vu W w' X n g c (n+m))
 (hfin:i=16→L 4=true∧L 9=true∧L 15=true∧∃b,v=.slice (some ⟨b,0,none⟩) 4 4∧W.heap.size≤b∧w'.heap[b]? =some (.cells #[X,x 4,x 9,x 15] 44 (0,0)))
 (hasg:i=17→L 16=true∧v=x 16):Vv W X n xs q (fun j=>decide (j=i)||L j) (fun j=>if j=i then v else x j) w':=by
 have old:∀j,¬j=i→(decide (j=i)||L j)=true→L j=true:=fun j hj hl=>by simpa [hj] using hl
 have blk:∀(b:Nat) (o:Obj),W.heap.size≤b→w.heap[b]? =some o→w'.heap[b]? =some o:=fun b o hb ho=>(hk.block b (lT ho) (fun hc=>by have:=hlt b hc;omega)).trans ho
 have no:∀j,L j=true→¬j=i:=fun j hj e=>by rw [e,hi] at hj;cases hj
 refine⟨fun j hj hl=>?_,fun j hj hl=>?_,fun j m hj hl=>?_,fun j m hj hl=>?_,fun hl=>?_,fun hl=>?_,hrow,h.kept.trans hk iL⟩
 ·by_cases e:j=i
  ·subst e;simpa using hmv hj
  ·simpa [e] using h.mv j hj (old j e hl)
 ·by_cases e:j=i
  ·subst e;simpa using hld hj
  ·simpa [e] using h.ld j hj (old j e hl)
 ·by_cases e:j=i
  ·subst e;simpa using hbs m hj
  ·obtain⟨b,h1,h2,h3⟩:=h.bs j m hj (old j e hl)
   exact⟨b,by simpa [e] using h1,h2,blk b _ h2 h3⟩
 ·by_cases e:j=i
  ·subst e;simpa using hap m hj
  ·obtain⟨g,c,h1,h2⟩:=h.ap j m hj (old j e hl)
   refine⟨g,c,by simpa [e] using h1,h2.imp id (fun h3=>⟨h3.1,?_⟩)⟩
   obtain⟨cur,h4,h5⟩:=h3.2
   exact⟨cur,blk g _ h3.1 h4,h5⟩
 ·by_cases e:16=i
  ·subst e
   obtain⟨h1,h2,h3,b,h4,h5,h6⟩:=hfin rfl
   exact⟨by simp [h1],by simp [h2],by simp [h3],b,by simpa using h4,h5,by simpa using h6⟩
  ·obtain⟨h1,h2,h3,b,h4,h5,h6⟩:=h.fin (old 16 e hl)
   refine⟨by simp [h1],by simp [h2],by simp [h3],b,by simpa [e] using h4,h5,?_⟩
   rw [if_neg (no 4 h1),if_neg (no 9 h2),if_neg (no 15 h3)]
   exact blk b _ h5 h6
 ·by_cases e:17=i
  ·subst e
   obtain⟨h1,h2⟩:=hasg rfl
   exact⟨by simp [h1],by simpa using h2⟩
  ·obtain⟨h1,h2⟩:=h.asg (old 17 e hl)
   exact⟨by simp [h1],by rw [if_neg e,if_neg (no 16 h1)];exact h2⟩
structure VL (w:World) (P:Nat→Prop) (g b4 q:Nat) (ss:List (Option Addr×Nat×Nat)):Prop where
 head:w.heap[g]? =some (.cells (ss.map uv).toArray 44 (0,0))
 room:∀s∈ss,s.2.1=0∨∃b cur,s.1=some ⟨b,0,none⟩∧P b∧w.heap[b]? =some (.cells cur 94 (0,0))∧s.2.1*4≤cur.size
 mine:w.heap[b4]? =some (.cells (qy q).toArray 94 (0,0))
 gP:¬P g
 bP:¬P b4
 few:∀s∈ss,s.2.1≤2000
theorem VL.set{w:World}{P:Nat→Prop}{g b4 q:Nat}{ss:List (Option Addr×Nat×Nat)}(h:VL w P g b4 q ss)(b j:Nat)(v:Value)(hb:P b):VL (w.setCell ⟨b,j,none⟩ v) P g b4 q ss:=
 ⟨(heap_setCell_other w ⟨b,j,none⟩ g v (fun e=>h.gP (by rw [e];exact hb))).trans h.head,fun s hs=>by
   rcases h.room s hs with h0|⟨b',cur,h1,h2,h3,h4⟩
   ·exact .inl h0
   ·by_cases e:b'=b
    ·subst e
     exact .inr ⟨b',_,h1,h2,heap_setCell_same w b' j _ _ _ h3,by simpa using h4⟩
    ·exact .inr ⟨b',cur,h1,h2,(heap_setCell_other w ⟨b,j,none⟩ b' v e).trans h3,h4⟩,(heap_setCell_other w ⟨b,j,none⟩ b4 v (fun e=>h.bP (by rw [e];exact hb))).trans h.mine,h.gP,h.bP,h.few⟩
theorem VL.drew{w:World}{P:Nat→Prop}{g b4 q:Nat}{ss:List (Option Addr×Nat×Nat)}(h:VL w P g b4 q ss):VL w.drew P g b4 q ss:=⟨h.head,h.room,h.mine,h.gP,h.bP,h.few⟩
theorem VL.cell{w:World}{P:Nat→Prop}{g b4 q:Nat}{ss:List (Option Addr×Nat×Nat)}(h:VL w P g b4 q ss)(i:Nat)(hi:i<ss.length):w.cell? ⟨g,i,none⟩=some (.slice ss[i].1 ss[i].2.1 ss[i].2.2):=by
 rw [cell_of_row w g i _ _ _ h.head];simp [hi,uv]
def yL(w:World)(q:Nat)(a:Option Addr)(m:Nat):Prop:=∀j,j<m→∀b,a=some ⟨b,0,none⟩→w.rangeAt b (j*4) (qy q)
theorem bC{q t:Nat}{v:Value}(h:(qy q)[t]? =some v):t<4:=(List.getElem?_eq_some_iff.1 h).1
theorem yL.set{w:World}{q:Nat}{a:Option Addr}{m:Nat}(h:yL w q a m)(b i t:Nat)(v:Value)(hv:(qy q)[t]? =some v):yL (w.setCell ⟨b,i*4+t,none⟩ v) q a m:=by
 intro j hj b' hb' s u hu
 rw [zJ (h j hj b' hb' s u hu)]
 split
 ·rename_i e
  have h1:=bC hv
  have h2:=bC hu
  obtain rfl:s=t:=by omega
  rw [hv] at hu;exact hu
 ·rfl
theorem yL.drew{w:World}{q:Nat}{a:Option Addr}{m:Nat}(h:yL w q a m):yL w.drew q a m:=h
def wr4(w:World)(b i q:Nat):World:=(((w.setCell ⟨b,i*4,none⟩ (.string uY)).setCell ⟨b,i*4+1,none⟩ (.int .i64 (q:Int))).setCell ⟨b,i*4+2,none⟩ (.bool false)).setCell ⟨b,i*4+3,none⟩ (.int .i64 0)
theorem VL.wr4{w:World}{P:Nat→Prop}{g b4 q:Nat}{ss:List (Option Addr×Nat×Nat)}(h:VL w P g b4 q ss)(b i:Nat)(hb:P b):VL (wr4 w b i q) P g b4 q ss:=(((h.set b _ _ hb).set b _ _ hb).set b _ _ hb).set b _ _ hb
theorem yL.wr4{w:World}{q:Nat}{a:Option Addr}{m:Nat}(h:yL w q a m)(b i:Nat):yL (wr4 w b i q) q a m:=(((h.set b i 0 _ rfl).set b i 1 _ rfl).set b i 2 _ rfl).set b i 3 _ rfl
theorem za.wr4{w:World}{P:Nat→Prop}(b i q:Nat)(hb:P b):za P w (wr4 w b i q):=(((za.setCell w ⟨b,i*4,none⟩ _ hb).trans (za.setCell _ ⟨b,i*4+1,none⟩ _ hb) iL).trans (za.setCell _ ⟨b,i*4+2,none⟩ _ hb) iL).trans (za.setCell _ ⟨b,i*4+3,none⟩ _ hb) iL
theorem Jv{w:World}{b i q:Nat}{u0 u1 u2 u3:Value}(h0:w.cell? ⟨b,i*4,none⟩=some u0)(h1:w.cell? ⟨b,i*4+1,none⟩=some u1)(h2:w.cell? ⟨b,i*4+2,none⟩=some u2)(h3:w.cell? ⟨b,i*4+3,none⟩=some u3):(wr4 w b i q).rangeAt b (i*4) (qy q):=by
 intro t v hv
 have ht:=bC hv
 unfold law.wr4
 rcases (by omega:t=0∨t=1∨t=2∨t=3) with rfl|rfl|rfl|rfl
 ·have h0':w.cell? ⟨b,i*4+0,none⟩=some u0:=h0
  rw [zJ (zJ (zJ (zJ h0')))];simpa [qy] using hv
 ·rw [zJ (zJ (zJ (zJ h1)))];simpa [qy] using hv
 ·rw [zJ (zJ (zJ (zJ h2)))];simpa [qy] using hv
 ·rw [zJ (zJ (zJ (zJ h3)))];simpa [qy] using hv
theorem VL.vets{w:World}{P:Nat→Prop}{g b4 q:Nat}{ss:List (Option Addr×Nat×Nat)}(h:VL w P g b4 q ss)(hl:ss.length≤100)(hm:∀i (hi:i<ss.length),yL w q ss[i].1 ss[i].2.1):bj w P g ss q:=by
 refine⟨h.head,fun s hs j hj=>?_,fun s hs=>by have:=h.few s hs;omega,hl⟩
 rcases h.room s hs with h0|⟨b,cur,h1,h2,h3,h4⟩
 ·omega
 ·obtain⟨i,hi,rfl⟩:=List.getElem_of_mem hs
  exact⟨b,h1,h2,(lT h3),hm i hi j hj b h1⟩
theorem Vv.vl{W:World}{ax:Option Addr}{n cx:Nat}{xs:List Value}{q:Nat}{L:Nat→Bool}{x:Nat→Value}{w1:World}{b4 g5 g1 g2 g3 c1 c2 c3:Nat}(h:Vv W (.slice ax n cx) n xs q L x w1)(hlt:∀k,(Value.slice ax n cx).ownBlock=some k→k<b4)(hb:b4<W.heap.size)(hm:W.heap[b4]? =some (.cells (qy q).toArray 94 (0,0)))(hn:n≤1000)
 (hg:W.heap.size≤g5) (h5:w1.heap[g5]? =some (.cells #[.slice ax n cx,.slice (some ⟨g1,0,none⟩) (n+1) c1,.slice (some ⟨g2,0,none⟩) (n+2) c2,.slice (some ⟨g3,0,none⟩) (n+3) c3] 44 (0,0))) (r1:Vu W w1 (.slice ax n cx) n g1 c1 (n+1)) (r2:Vu W w1 (.slice ax n cx) n g2 c2 (n+2)) (r3:Vu W w1 (.slice ax n cx) n g3 c3 (n+3)):
 VL w1 (fun k=>(Value.slice ax n cx).ownBlock=some k∨(W.heap.size≤k∧k≠g5∧k<w1.heap.size)) g5 b4 q [(ax,n,cx),(some ⟨g1,0,none⟩,n+1,c1),(some ⟨g2,0,none⟩,n+2,c2),(some ⟨g3,0,none⟩,n+3,c3)]:=by
 have rm:∀g c m,Vu W w1 (.slice ax n cx) n g c m→∃b cur,(some (⟨g,0,none⟩:Addr))=some ⟨b,0,none⟩∧((Value.slice ax n cx).ownBlock=some b∨(W.heap.size≤b∧b≠g5∧b<w1.heap.size))∧w1.heap[b]? =some (.cells cur 94 (0,0))∧m*4≤cur.size:=fun g c m hr=>by
  rcases hr with⟨e,h2⟩|⟨h1,cur,h2,h3⟩
  ·rcases h.row.2 with⟨h0,_⟩|⟨g',cap',cur,hv',_,hgg,h3,h4,h6,_⟩
   ·rw [h0] at e;cases e
   ·rw [hv'] at e;cases e
    exact⟨g,cur,rfl,.inl (by rw [hv'];rfl),hgg,by omega⟩
  ·refine⟨g,cur,rfl,.inr ⟨h1,fun e=>?_,(lT h2)⟩,h2,h3⟩
   rw [e,h5] at h2
   simp at h2
 refine⟨h5,fun s hs=>?_,(h.kept.block _ hb (fun hc=>by have:=hlt _ hc;omega)).trans hm,fun hc=>?_,fun hc=>?_,fun s hs=>?_⟩
 ·simp only [List.mem_cons,List.not_mem_nil,or_false] at hs
  rcases hs with rfl|rfl|rfl|rfl
  ·rcases h.row.2 with⟨_,h1⟩|⟨g',cap',cur,hv',_,hgg,h3,h4,h6,_⟩
   ·exact .inl h1
   ·have hv2:=hv'
    cases hv'
    exact .inr ⟨g',cur,rfl,.inl (by rw [hv2];rfl),hgg,by show n*4≤cur.size;omega⟩
  ·exact .inr (rm g1 c1 _ r1)
  ·exact .inr (rm g2 c2 _ r2)
  ·exact .inr (rm g3 c3 _ r3)
 ·rcases hc with hc|hc
  ·have:=hlt _ hc;omega
  ·exact hc.2.1 rfl
 ·rcases hc with hc|hc
  ·have:=hlt _ hc;omega
  ·omega
 ·simp only [List.mem_cons,List.not_mem_nil,or_false] at hs
  rcases hs with rfl|rfl|rfl|rfl<;>simp<;>omega
theorem Tryz.infoRows:(Tryz.prog.info? 129).map (fun i=>(i.zero,i.size,i.bytes))=some (some (.slice none 0 0),1,24):=by kernel_rfl
theorem Tryz.infoVe:(Tryz.prog.info? 94).map (fun i=>(i.zero,i.size,i.bytes))=some (some (.agg #[.string ⟨#[]⟩,.int .i64 0,.bool false,.int .i64 0]),4,40):=by kernel_rfl
theorem xv(w:World)(bp:Nat)(l:Value)(F H S:Nat→Prop)(a b:Option Addr)(ca cb:Nat)(es vs:List jo)(h:ji w bp l F H a b ca cb es vs)(hfew:vs.length≤2199023255552)
 (ax:Option Addr) (n cx:Nat) (xs:List Value) (hx:w.ownsRow 0 94 4 (.slice ax n cx) n xs) (hn:n≤1000) (hS:∀k,(Value.slice ax n cx).ownBlock=some k→S k) (hSF:∀k,S k→¬F k∧¬H k∧k≠bp):
 Calls Tryz.prog 110 #[.pointer (some ⟨bp,1,none⟩),.slice ax n cx] w fun e w'=>e=.returned (.tuple #[])∧
  (∃b' cb' vs' H',ji w' bp l F H' a b' ca cb' es vs'∧vs'.length=vs.length+1∧∀k,H' k→H k∨S k∨w.heap.size≤k)∧za (fun k=>H k∨S k∨k=bp) w w':=by
 have HH:Hid _:=h
 have HX:Hid (w.ownsRow 0 94 4 (.slice ax n cx) n xs):=hx
 have hc2:=h.head.c.2.2.1
 have hbp:=h.head.lt
 obtain⟨j0,hi0,hz0,hz1,hz2⟩:=yN Tryz.infoVe
 have HJ0:Hid (Tryz.prog.info? 94=some j0∧j0.zero=some (.agg #[.string ⟨#[]⟩,.int .i64 0,.bool false,.int .i64 0])∧j0.size=4∧j0.bytes=40):=⟨hi0,hz0,hz1,hz2⟩
 clear hi0 hz0 hz1 hz2
 obtain⟨i0,hi0,hz0,hz1,hz2⟩:=yN Tryz.infoRows
 have HI0:Hid (Tryz.prog.info? 129=some i0∧i0.zero=some (.slice none 0 0)∧i0.size=1∧i0.bytes=24):=⟨hi0,hz0,hz1,hz2⟩
 clear hi0 hz0 hz1 hz2 h hx
 have HXw:Hid (∀k,(Value.slice ax n cx).ownBlock=some k→k<w.heap.size):=fun k hk=>(HX.out.lt k hk).2
 go_enter Tryz.func110,Tryz.ntmps110
 go_wp2_with fail
 obtain⟨W,hW⟩:∃W,W=w.alloc (.cells #[.string uY,.int .i64 (vs.length:Int),.bool false,.int .i64 0] 94):=⟨_,rfl⟩
 have kW:za (fun _=>False) w W:=by rw [hW];exact za.alloc _ _ _
 have sW:W.heap.size=w.heap.size+1:=by rw [hW];simp
 have bW:W.heap[w.heap.size]? =some (.cells (qy vs.length).toArray 94 (0,0)):=by rw [hW];exact heap_alloc_new w _
 have HXL:Hid (∀k,(Value.slice ax n cx).ownBlock=some k→k<W.heap.size):=fun k hk=>by have:=HXw.out k hk;omega
 have hcell:∀w1,za (fun k=>(Value.slice ax n cx).ownBlock=some k) W w1→∀j u,(qy vs.length)[j]? =some u→w1.cell? ⟨w.heap.size,j,none⟩=some u:=fun w1 hk j u hu=>by
  rw [cell_of_row w1 _ j _ _ _ ((hk.block _ (by omega) (fun hc=>by have:=HXw.out _ hc;omega)).trans bW)]
  simpa using hu
 have hrW:W.ownsRow 0 94 4 (.slice ax n cx) n xs:=kW.owns HX.out nF
 have HKW:Hid _:=kW
 rw [show w.alloc (.cells #[.string ⟨#[40,109,105,110,101,41]⟩,.int .i64 (vs.length:Int),.bool false,.int .i64 0] 94)=W from hW.symm]
 clear hW kW
 refine jk (by kernel_rfl) (by kernel_rfl) (fun L a' w1=>∃x:Nat→Value,a'={tmps:=#[.pointer (some ⟨bp,1,none⟩),.slice ax n cx,undef,undef,.pointer (some ⟨w.heap.size,0,none⟩),x 17,undef,undef,.pointer (some ⟨bp,1,none⟩),.pointer (some ⟨bp,1,none⟩),.pointer (some ⟨bp,2,none⟩),.slice b vs.length cb,.int .i64 (vs.length:Int),.agg #[.string uY,.int .i64 (vs.length:Int),.bool false,.int .i64 0],x 0,x 1,x 2,x 3,x 4,x 5,x 6,x 7,x 8,x 9,x 10,x 11,x 12,x 13,x 14,x 15,x 16,undef,undef,undef,undef,undef,undef,undef,undef,undef,undef,undef,undef,undef,undef,undef,undef,undef,undef,undef,undef,undef,undef,undef,undef,undef,undef,undef,undef,undef,undef,undef,undef],defers:=[]}∧Vv W (.slice ax n cx) n xs vs.length L x w1) ?_ ?_ ?_
 ·exact⟨fun _=>undef,rfl,⟨fun _ _ h=>(nomatch h),fun _ _ h=>(nomatch h),fun _ _ _ h=>(nomatch h),fun _ _ _ h=>(nomatch h),fun h=>(nomatch h),fun h=>(nomatch h),(za.drew (fun _=>False) W).owns hrW nF,za.drew _ W⟩⟩
 ·rintro L a' w1 i o ho hL hdep ⟨x,rfl,hI⟩
  have hi:i<18:=(lT ho)
  rcases (by omega:i=0∨i=1∨i=2∨i=3∨i=4∨i=5∨i=6∨i=7∨i=8∨i=9∨i=10∨i=11∨i=12∨i=13∨i=14∨i=15∨i=16∨i=17) with rfl|rfl|rfl|rfl|rfl|rfl|rfl|rfl|rfl|rfl|rfl|rfl|rfl|rfl|rfl|rfl|rfl|rfl
  ·have ho':=Option.some.inj ho;subst ho'
   refine wpOp_step rfl (fun K' hK=>?_)
   go_simp
   exact hK _ _ ⟨fun j=>if j=0 then .slice ax n cx else x j,by simp,hI.step 0 hL _ _ (za.refl _ _) hI.row HXL.out (fun _=>rfl) (fun h=>by omega) (fun m h=>by omega) (fun m h=>by omega) (fun h=>by omega) (fun h=>by omega)⟩
  ·have ho':=Option.some.inj ho;subst ho'
   refine wpOp_step rfl (fun K' hK=>?_)
   go_simp
   exact hK _ _ ⟨fun j=>if j=1 then .slice ax n cx else x j,by simp,hI.step 1 hL _ _ (za.refl _ _) hI.row HXL.out (fun _=>rfl) (fun h=>by omega) (fun m h=>by omega) (fun m h=>by omega) (fun h=>by omega) (fun h=>by omega)⟩
  ·have ho':=Option.some.inj ho;subst ho'
   have c0:=hcell w1 hI.kept 0 _ rfl
   have c1:=hcell w1 hI.kept 1 _ rfl
   have c2:=hcell w1 hI.kept 2 _ rfl
   have c3:=hcell w1 hI.kept 3 _ rfl
   refine wpOp_step rfl (fun K' hK=>?_)
   go_simp
   exact hK _ _ ⟨fun j=>if j=2 then .agg (qy vs.length).toArray else x j,by simp [qy],hI.step 2 hL _ _ (za.refl _ _) hI.row HXL.out (fun h=>by omega) (fun _=>rfl) (fun m h=>by omega) (fun m h=>by omega) (fun h=>by omega) (fun h=>by omega)⟩
  ·have ho':=Option.some.inj ho;subst ho'
   have e2:=hI.ld 2 (by omega) (hdep ⟨2,.data⟩ (by simp) rfl)
   refine wpOp_step rfl (fun K' hK=>?_)
   simp only [e2,qy]
   go_simp
   exact hK _ _ ⟨fun j=>if j=3 then .slice (some ⟨w1.heap.size,0,none⟩) 1 1 else x j,by simp [e2,qy],hI.step 3 hL _ _ (za.alloc _ _ _) (hI.row.alloc _) HXL.out (fun h=>by omega) (fun h=>by omega) (fun m h=>by obtain rfl:m=1:=(by omega);exact⟨_,rfl,hI.kept.size,heap_alloc_new w1 _⟩) (fun m h=>by omega) (fun h=>by omega) (fun h=>by omega)⟩
  ·have ho':=Option.some.inj ho;subst ho'
   have e1:=hI.mv 1 (by omega) (hdep ⟨1,.data⟩ (by simp) rfl)
   obtain⟨b3,e3,hb3,hb4⟩:=hI.bs 3 1 (by omega) (hdep ⟨3,.data⟩ (by simp) rfl)
   refine wpOp_step rfl (fun K' hK=>?_)
   refine yV rfl (.tmp 15) (.tmp 17) 44 rfl 94 j0 _ 4 40 Tryz.underlying44 HJ0.out.1 HJ0.out.2.1 HJ0.out.2.2.1 HJ0.out.2.2.2 rfl (.slice ax n cx) n xs e1 hI.row ⟨b3,0,none⟩ 1 1 (gc vs.length 1) e3 rfl (World.news_of_block hb4) (by simp [gc,qy,Value.oneCell']) (by omega) (by unfold maxLen;omega) (by omega) ?_
   intro r w2 happ
   obtain⟨g2,c2,rfl,hr⟩:=happ.form
   exact hK _ _ ⟨fun j=>if j=4 then .slice (some ⟨g2,0,none⟩) (n+1) c2 else x j,by simp [Act.put],hI.step 4 hL _ _ happ.kept happ.keeps HXL.out (fun h=>by omega) (fun h=>by omega) (fun m h=>by omega) (fun m h=>by obtain rfl:m=1:=(by omega);exact⟨g2,c2,rfl,hr.imp id (fun h=>⟨by have:=hI.kept.size;omega,h.2⟩)⟩) (fun h=>by omega) (fun h=>by omega)⟩
  ·have ho':=Option.some.inj ho;subst ho'
   refine wpOp_step rfl (fun K' hK=>?_)
   go_simp
   exact hK _ _ ⟨fun j=>if j=5 then .slice ax n cx else x j,by simp,hI.step 5 hL _ _ (za.refl _ _) hI.row HXL.out (fun _=>rfl) (fun h=>by omega) (fun m h=>by omega) (fun m h=>by omega) (fun h=>by omega) (fun h=>by omega)⟩
  ·have ho':=Option.some.inj ho;subst ho'
   have c0:=hcell w1 hI.kept 0 _ rfl
   have c1:=hcell w1 hI.kept 1 _ rfl
   have c2:=hcell w1 hI.kept 2 _ rfl
   have c3:=hcell w1 hI.kept 3 _ rfl
   refine wpOp_step rfl (fun K' hK=>?_)
   go_simp
   exact hK _ _ ⟨fun j=>if j=6 then .agg (qy vs.length).toArray else x j,by simp [qy],hI.step 6 hL _ _ (za.refl _ _) hI.row HXL.out (fun h=>by omega) (fun _=>rfl) (fun m h=>by omega) (fun m h=>by omega) (fun h=>by omega) (fun h=>by omega)⟩
  ·have ho':=Option.some.inj ho;subst ho'
   have c0:=hcell w1 hI.kept 0 _ rfl
   have c1:=hcell w1 hI.kept 1 _ rfl
   have c2:=hcell w1 hI.kept 2 _ rfl
   have c3:=hcell w1 hI.kept 3 _ rfl
   refine wpOp_step rfl (fun K' hK=>?_)
   go_simp
   exact hK _ _ ⟨fun j=>if j=7 then .agg (qy vs.length).toArray else x j,by simp [qy],hI.step 7 hL _ _ (za.refl _ _) hI.row HXL.out (fun h=>by omega) (fun _=>rfl) (fun m h=>by omega) (fun m h=>by omega) (fun h=>by omega) (fun h=>by omega)⟩
  ·have ho':=Option.some.inj ho;subst ho'
   have e6:=hI.ld 6 (by omega) (hdep ⟨6,.data⟩ (by simp) rfl)
   have e7:=hI.ld 7 (by omega) (hdep ⟨7,.data⟩ (by simp) rfl)
   refine wpOp_step rfl (fun K' hK=>?_)
   simp only [e6,e7,qy]
   go_simp
   exact hK _ _ ⟨fun j=>if j=8 then .slice (some ⟨w1.heap.size,0,none⟩) 2 2 else x j,by simp [e6,e7,qy],hI.step 8 hL _ _ (za.alloc _ _ _) (hI.row.alloc _) HXL.out (fun h=>by omega) (fun h=>by omega) (fun m h=>by obtain rfl:m=2:=(by omega);exact⟨_,rfl,hI.kept.size,heap_alloc_new w1 _⟩) (fun m h=>by omega) (fun h=>by omega) (fun h=>by omega)⟩
  ·have ho':=Option.some.inj ho;subst ho'
   have e1:=hI.mv 5 (by omega) (hdep ⟨5,.data⟩ (by simp) rfl)
   obtain⟨b3,e3,hb3,hb4⟩:=hI.bs 8 2 (by omega) (hdep ⟨8,.data⟩ (by simp) rfl)
   refine wpOp_step rfl (fun K' hK=>?_)
   refine yV rfl (.tmp 19) (.tmp 22) 44 rfl 94 j0 _ 4 40 Tryz.underlying44 HJ0.out.1 HJ0.out.2.1 HJ0.out.2.2.1 HJ0.out.2.2.2 rfl (.slice ax n cx) n xs e1 hI.row ⟨b3,0,none⟩ 2 2 (gc vs.length 2) e3 rfl (World.news_of_block hb4) (by simp [gc,qy,Value.oneCell']) (by omega) (by unfold maxLen;omega) (by omega) ?_
   intro r w2 happ
   obtain⟨g2,c2,rfl,hr⟩:=happ.form
   exact hK _ _ ⟨fun j=>if j=9 then .slice (some ⟨g2,0,none⟩) (n+2) c2 else x j,by simp [Act.put],hI.step 9 hL _ _ happ.kept happ.keeps HXL.out (fun h=>by omega) (fun h=>by omega) (fun m h=>by omega) (fun m h=>by obtain rfl:m=2:=(by omega);exact⟨g2,c2,rfl,hr.imp id (fun h=>⟨by have:=hI.kept.size;omega,h.2⟩)⟩) (fun h=>by omega) (fun h=>by omega)⟩
  ·have ho':=Option.some.inj ho;subst ho'
   refine wpOp_step rfl (fun K' hK=>?_)
   go_simp
   exact hK _ _ ⟨fun j=>if j=10 then .slice ax n cx else x j,by simp,hI.step 10 hL _ _ (za.refl _ _) hI.row HXL.out (fun _=>rfl) (fun h=>by omega) (fun m h=>by omega) (fun m h=>by omega) (fun h=>by omega) (fun h=>by omega)⟩
  ·have ho':=Option.some.inj ho;subst ho'
   have c0:=hcell w1 hI.kept 0 _ rfl
   have c1:=hcell w1 hI.kept 1 _ rfl
   have c2:=hcell w1 hI.kept 2 _ rfl
   have c3:=hcell w1 hI.kept 3 _ rfl
   refine wpOp_step rfl (fun K' hK=>?_)
   go_simp
   exact hK _ _ ⟨fun j=>if j=11 then .agg (qy vs.length).toArray else x j,by simp [qy],hI.step 11 hL _ _ (za.refl _ _) hI.row HXL.out (fun h=>by omega) (fun _=>rfl) (fun m h=>by omega) (fun m h=>by omega) (fun h=>by omega) (fun h=>by omega)⟩
  ·have ho':=Option.some.inj ho;subst ho'
   have c0:=hcell w1 hI.kept 0 _ rfl
   have c1:=hcell w1 hI.kept 1 _ rfl
   have c2:=hcell w1 hI.kept 2 _ rfl
   have c3:=hcell w1 hI.kept 3 _ rfl
   refine wpOp_step rfl (fun K' hK=>?_)
   go_simp
   exact hK _ _ ⟨fun j=>if j=12 then .agg (qy vs.length).toArray else x j,by simp [qy],hI.step 12 hL _ _ (za.refl _ _) hI.row HXL.out (fun h=>by omega) (fun _=>rfl) (fun m h=>by omega) (fun m h=>by omega) (fun h=>by omega) (fun h=>by omega)⟩
  ·have ho':=Option.some.inj ho;subst ho'
   have c0:=hcell w1 hI.kept 0 _ rfl
   have c1:=hcell w1 hI.kept 1 _ rfl
   have c2:=hcell w1 hI.kept 2 _ rfl
   have c3:=hcell w1 hI.kept 3 _ rfl
   refine wpOp_step rfl (fun K' hK=>?_)
   go_simp
   exact hK _ _ ⟨fun j=>if j=13 then .agg (qy vs.length).toArray else x j,by simp [qy],hI.step 13 hL _ _ (za.refl _ _) hI.row HXL.out (fun h=>by omega) (fun _=>rfl) (fun m h=>by omega) (fun m h=>by omega) (fun h=>by omega) (fun h=>by omega)⟩
  ·have ho':=Option.some.inj ho;subst ho'
   have e11:=hI.ld 11 (by omega) (hdep ⟨11,.data⟩ (by simp) rfl)
   have e12:=hI.ld 12 (by omega) (hdep ⟨12,.data⟩ (by simp) rfl)
   have e13:=hI.ld 13 (by omega) (hdep ⟨13,.data⟩ (by simp) rfl)
   refine wpOp_step rfl (fun K' hK=>?_)
   simp only [e11,e12,e13,qy]
   go_simp
   exact hK _ _ ⟨fun j=>if j=14 then .slice (some ⟨w1.heap.size,0,none⟩) 3 3 else x j,by simp [e11,e12,e13,qy],hI.step 14 hL _ _ (za.alloc _ _ _) (hI.row.alloc _) HXL.out (fun h=>by omega) (fun h=>by omega) (fun m h=>by obtain rfl:m=3:=(by omega);exact⟨_,rfl,hI.kept.size,heap_alloc_new w1 _⟩) (fun m h=>by omega) (fun h=>by omega) (fun h=>by omega)⟩
  ·have ho':=Option.some.inj ho;subst ho'
   have e1:=hI.mv 10 (by omega) (hdep ⟨10,.data⟩ (by simp) rfl)
   obtain⟨b3,e3,hb3,hb4⟩:=hI.bs 14 3 (by omega) (hdep ⟨14,.data⟩ (by simp) rfl)
   refine wpOp_step rfl (fun K' hK=>?_)
   refine yV rfl (.tmp 24) (.tmp 28) 44 rfl 94 j0 _ 4 40 Tryz.underlying44 HJ0.out.1 HJ0.out.2.1 HJ0.out.2.2.1 HJ0.out.2.2.2 rfl (.slice ax n cx) n xs e1 hI.row ⟨b3,0,none⟩ 3 3 (gc vs.length 3) e3 rfl (World.news_of_block hb4) (by simp [gc,qy,Value.oneCell']) (by omega) (by unfold maxLen;omega) (by omega) ?_
   intro r w2 happ
   obtain⟨g2,c2,rfl,hr⟩:=happ.form
   exact hK _ _ ⟨fun j=>if j=15 then .slice (some ⟨g2,0,none⟩) (n+3) c2 else x j,by simp [Act.put],hI.step 15 hL _ _ happ.kept happ.keeps HXL.out (fun h=>by omega) (fun h=>by omega) (fun m h=>by omega) (fun m h=>by obtain rfl:m=3:=(by omega);exact⟨g2,c2,rfl,hr.imp id (fun h=>⟨by have:=hI.kept.size;omega,h.2⟩)⟩) (fun h=>by omega) (fun h=>by omega)⟩
  ·have ho':=Option.some.inj ho;subst ho'
   have d4:L 4=true:=hdep ⟨4,.data⟩ (by simp) rfl
   have d9:L 9=true:=hdep ⟨9,.data⟩ (by simp) rfl
   have d15:L 15=true:=hdep ⟨15,.data⟩ (by simp) rfl
   have e0:=hI.mv 0 (by omega) (hdep ⟨0,.data⟩ (by simp) rfl)
   obtain⟨g1,k1,e4,_⟩:=hI.ap 4 1 (by omega) d4
   obtain⟨g2,k2,e9,_⟩:=hI.ap 9 2 (by omega) d9
   obtain⟨g3,k3,e15,_⟩:=hI.ap 15 3 (by omega) d15
   refine wpOp_step rfl (fun K' hK=>?_)
   simp only [e0,e4,e9,e15]
   go_simp
   exact hK _ _ ⟨fun j=>if j=16 then .slice (some ⟨w1.heap.size,0,none⟩) 4 4 else x j,by simp [e0,e4,e9,e15],hI.step 16 hL _ _ (za.alloc _ _ _) (hI.row.alloc _) HXL.out (fun h=>by omega) (fun h=>by omega) (fun m h=>by omega) (fun m h=>by omega) (fun _=>⟨d4,d9,d15,w1.heap.size,rfl,hI.kept.size,by rw [e4,e9,e15];exact heap_alloc_new w1 _⟩) (fun h=>by omega)⟩
  ·have ho':=Option.some.inj ho;subst ho'
   have d16:L 16=true:=hdep ⟨16,.data⟩ (by simp) rfl
   refine wpOp_step rfl (fun K' hK=>?_)
   go_simp
   exact hK _ _ ⟨fun j=>if j=17 then x 16 else x j,by simp,hI.step 17 hL _ _ (za.refl _ _) hI.row HXL.out (fun h=>by omega) (fun h=>by omega) (fun m h=>by omega) (fun m h=>by omega) (fun h=>by omega) (fun _=>⟨d16,rfl⟩)⟩
 ·rintro L a' w1 hall ⟨x,rfl,hI⟩
  obtain⟨_,_,_,g5,e16,hg5,hb5⟩:=hI.fin (hall 16 (by decide))
  have e17:=(hI.asg (hall 17 (by decide))).2
  obtain⟨g1,c1,e4,r1⟩:=hI.ap 4 1 (by omega) (hall 4 (by decide))
  obtain⟨g2,c2,e9,r2⟩:=hI.ap 9 2 (by omega) (hall 9 (by decide))
  obtain⟨g3,c3,e15,r3⟩:=hI.ap 15 3 (by omega) (hall 15 (by decide))
  rw [e4,e9,e15] at hb5
  have hvl:=hI.vl (b4:=w.heap.size) HXw.out (by omega) bW hn hg5 hb5 r1 r2 r3
  rw [e17,e16]
  obtain⟨P,hPd⟩:∃P:Nat→Prop,P=fun k=>(Value.slice ax n cx).ownBlock=some k∨(W.heap.size≤k∧k≠g5∧k<w1.heap.size):=⟨_,rfl⟩
  obtain⟨ss,hsd⟩:∃ss:List (Option Addr×Nat×Nat),ss=[(ax,n,cx),(some ⟨g1,0,none⟩,n+1,c1),(some ⟨g2,0,none⟩,n+2,c2),(some ⟨g3,0,none⟩,n+3,c3)]:=⟨_,rfl⟩
  rw [←hPd,←hsd] at hvl
  have HLN:Hid (ss.length=4):=(by rw [hsd];rfl)
  have HPD:Hid (P=fun k=>(Value.slice ax n cx).ownBlock=some k∨(W.heap.size≤k∧k≠g5∧k<w1.heap.size)):=hPd
  have HVL:Hid (VL w1 P g5 w.heap.size vs.length ss):=hvl
  have HKX:Hid (za (fun k=>(Value.slice ax n cx).ownBlock=some k) W w1):=hI.kept
  have hsz1:=hI.kept.size
  have hg5lt:=(lT hb5)
  clear hI hb5 r1 r2 r3 e4 e9 e15 e16 e17 hvl hPd hsd hcell hrW bW hall
  go_wp2_with fail
  go_loopw [6] (fun t wr=>∃k:Nat,k≤4∧t=.int .i64 k∧VL wr P g5 w.heap.size vs.length ss∧(∀i (hi:i<ss.length),i<k→yL wr vs.length ss[i].1 ss[i].2.1)∧za P w1 wr) (fun t _=>4-(intOf t).toNat)
  case atStart=>exact⟨0,Nat.zero_le _,rfl,HVL.out,fun _ _ h=>by omega,za.refl _ _⟩
  case round=>
   obtain⟨k,hk,rfl,hl,ha,hkept⟩:=hrel
   have HL:Hid (VL wr P g5 w.heap.size vs.length ss):=hl
   have HA:Hid (∀i (hi:i<ss.length),i<k→yL wr vs.length ss[i].1 ss[i].2.1):=ha
   have HK:Hid (za P w1 wr):=hkept
   clear hl ha hkept
   by_cases hlt:k<4
   ·have hltS:k<ss.length:=by rw [HLN.out];exact hlt
    have hkd:decide ((k:Int)<4)=true:=decide_eq_true (by omega)
    go_wp2
    clear hkd
    have hkI:(k:Int)<4:=by omega
    go_loopw [7] (fun t wq=>∃m:Nat,m≤ss[k].2.1∧t=.int .i64 m∧VL wq P g5 w.heap.size vs.length ss∧(∀i (hi:i<ss.length),i<k→yL wq vs.length ss[i].1 ss[i].2.1)∧yL wq vs.length ss[k].1 m∧za P w1 wq) (fun t _=>ss[k].2.1-(intOf t).toNat)
    case atStart=>exact⟨0,Nat.zero_le _,rfl,HL.out,HA.out,fun j hj=>by omega,HK.out⟩
    case round=>
     obtain⟨m,hm,rfl,hl2,ha2,hz2,hkept2⟩:=hrel
     have hc:=hl2.cell k hltS
     have hfw:=hl2.few ss[k] (List.getElem_mem hltS)
     have HL2:Hid (VL wr P g5 w.heap.size vs.length ss):=hl2
     have HA2:Hid (∀i (hi:i<ss.length),i<k→yL wr vs.length ss[i].1 ss[i].2.1):=ha2
     have HZ2:Hid (yL wr vs.length ss[k].1 m):=hz2
     have HK2:Hid (za P w1 wr):=hkept2
     clear hl2 ha2 hz2 hkept2
     by_cases hlt2:m<ss[k].2.1
     ·rcases HL2.out.room ss[k] (List.getElem_mem hltS) with h0|⟨b',cur,h1,h2,h3,h4⟩
      ·omega
      ·have u0:wr.cell? ⟨b',m*4,none⟩=some cur[m*4]:=by rw [cell_of_row wr b' _ _ _ _ h3];simp
       have u1:wr.cell? ⟨b',m*4+1,none⟩=some cur[m*4+1]:=by rw [cell_of_row wr b' _ _ _ _ h3];simp
       have u2:wr.cell? ⟨b',m*4+2,none⟩=some cur[m*4+2]:=by rw [cell_of_row wr b' _ _ _ _ h3];simp
       have u3:wr.cell? ⟨b',m*4+3,none⟩=some cur[m*4+3]:=by rw [cell_of_row wr b' _ _ _ _ h3];simp
       have f0:=frozen_of_row wr b' (m*4) _ _ h3
       have f1:=frozen_of_row wr b' (m*4+1) _ _ h3
       have f2:=frozen_of_row wr b' (m*4+2) _ _ h3
       have f3:=frozen_of_row wr b' (m*4+3) _ _ h3
       have n0:wr.cell? ⟨w.heap.size,0,none⟩=some (.string uY):=cR HL2.out.mine rfl
       have n1:wr.cell? ⟨w.heap.size,1,none⟩=some (.int .i64 (vs.length:Int)):=cR HL2.out.mine rfl
       have n2:wr.cell? ⟨w.heap.size,2,none⟩=some (.bool false):=cR HL2.out.mine rfl
       have n3:wr.cell? ⟨w.heap.size,3,none⟩=some (.int .i64 0):=cR HL2.out.mine rfl
       have hb1:¬b'=g5:=fun e=>HL2.out.gP (by rw [←e];exact h2)
       have hb2:¬b'=w.heap.size:=fun e=>HL2.out.bP (by rw [←e];exact h2)
       have hb1':¬g5=b':=Ne.symm hb1
       have hb2':¬w.heap.size=b':=Ne.symm hb2
       have HU:Hid ((wr4 wr b' m vs.length).rangeAt b' (m*4) (qy vs.length)):=Jv u0 u1 u2 u3
       have H1:Hid (ss[k].1=some ⟨b',0,none⟩):=h1
       have HP:Hid (P b'):=h2
       rw [h1] at hc
       have hm2:(m:Int)<(ss[k].2.1:Int):=by omega
       clear h1 h2 h3
       generalize cur[m*4]=v0 at*
       generalize cur[m*4+1]=v1 at*
       generalize cur[m*4+2]=v2 at*
       generalize cur[m*4+3]=v3 at*
       go_wp2_with fail
       go_region_held3 (fun w'=>w'.cell? ⟨g5,k,none⟩=some (.slice (some ⟨b',0,none⟩) ss[k].2.1 ss[k].2.2)∧w'.cell? ⟨w.heap.size,0,none⟩=some (.string uY)∧w'.cell? ⟨w.heap.size,1,none⟩=some (.int .i64 (vs.length:Int))∧w'.cell? ⟨w.heap.size,2,none⟩=some (.bool false)∧w'.cell? ⟨w.heap.size,3,none⟩=some (.int .i64 0)) (go_keep) (fail)
       go_wp2
       go_roundw
       case rel=>
        refine⟨m+1,by omega,by go_num,(HL2.out.wr4 b' m HP.out).drew,fun i hi hik=>((HA2.out i hi hik).wr4 b' m).drew,?_,(HK2.out.trans (za.wr4 b' m vs.length HP.out) iL).trans (za.drew _ _) iL⟩
        intro j hj b2 hb2
        by_cases e2:j=m
        ·subst e2
         have e3:=H1.out
         rw [hb2] at e3;cases e3
         exact HU.out
        ·exact(HZ2.out.wr4 b' m) j (by omega) b2 hb2
       case measure=>simp [intOf];omega
     ·go_wp2
      go_roundw
      case rel=>
       refine⟨k+1,by omega,by go_num,HL2.out,fun i hi hik=>?_,HK2.out⟩
       by_cases e:i=k
       ·subst e;have e2:m=ss[i].2.1:=by omega
        rw [←e2];exact HZ2.out
       ·exact HA2.out i hi (by omega)
      case measure=>simp [intOf];omega
   ·have hvt:=HL.out.vets (by rw [HLN.out];omega) (fun i hi=>HA.out i hi (by have:=HLN.out;omega))
    have HVT:Hid (bj wr P g5 ss vs.length):=hvt
    have hPX:∀j,P j→(Value.slice ax n cx).ownBlock=some j∨(W.heap.size≤j∧j≠g5∧j<w1.heap.size):=fun j hj=>by have e:=HPD.out;rw [e] at hj;exact hj
    have HPX:Hid _:=hPX
    have hkw:za (fun k=>(Value.slice ax n cx).ownBlock=some k) w wr:=((HKW.out.mono fE).trans HKX.out iL).trans HK.out (fun j hj=>(HPX.out j hj).imp id (fun h=>by omega))
    have hB4:ji wr bp l F H a b ca cb es vs:=HH.out.kept hkw (fun i hi hc=>(hSF i (hS i hc)).1 hi) (fun i hi hc=>(hSF i (hS i hc)).2.1 hi) (fun hc=>(hSF bp (hS bp hc)).2.2 rfl)
    have HB4:Hid _:=hB4
    have hcc2:=hB4.head.c.2.2.1
    have hff2:=hB4.head.c.2.2.2 2
    have hbp4:=hB4.head.lt
    have HKw:Hid _:=hkw
    have hge:¬(k:Int)<4:=by omega
    have hs4:=HK.out.size
    clear hB4 hkw hvt hPX
    go_wp2_with (refine wpList_append_lies _ rfl (.tmp 57) (.tmp 59) 75 rfl 0 129 i0 _ 1 24 Tryz.underlying75 HI0.out.1 HI0.out.2.1 HI0.out.2.2.1 HI0.out.2.2.2 rfl (by omega) (.slice b vs.length cb) vs.length (vs.map jo.val) (by rfl) (by exact World.ownsRow.alloc HB4.out.rows.row _) ⟨wr.heap.size,0,none⟩ 1 1 [.slice (some ⟨g5,0,none⟩) 4 4] (by rfl) (by rfl) (by exact World.news_of_block (heap_alloc_new wr _)) (by simp [Value.oneCell']) (by omega) (by unfold maxLen;omega) (by omega) (Nat.zero_le _) (wr.heap.size+1) (by simp) ?_;intro g6 c6 w6 hown6 hgrow6 hat6 hlt6;have HO6:Hid _:=hown6;have HG6:Hid _:=hgrow6;have HT6:Hid _:=hat6;have hc6:w6.cell? ⟨bp,2,none⟩=some (.slice b vs.length cb):=(hgrow6.cell_far ⟨bp,2,none⟩ (by simp;omega) (fun e=>HB4.out.hbp (HB4.out.rows.foot2 bp e.symm))).trans (by simpa using HB4.out.kept (za.alloc (fun _=>False) wr _) nF nF (fun hf=>hf) |>.head.c.2.2.1);have hf6:w6.frozen? ⟨bp,2,none⟩=false:=(hgrow6.frozen_far ⟨bp,2,none⟩ (by simp;omega) (fun e=>HB4.out.hbp (HB4.out.rows.foot2 bp e.symm))).trans (by simpa using HB4.out.kept (za.alloc (fun _=>False) wr _) nF nF (fun hf=>hf) |>.head.c.2.2.2 2);clear hown6 hgrow6 hat6)
    go_end0
    have hpush:=HB4.out.pushV (by omega) ⟨g5,ss,P⟩ HLN.out HVT.out
     (fun j hj=>by
      have hf:=HH.out.flt j
      have hh:=HH.out.hlt j
      rcases HPX.out j hj with hj|hj
      ·have h1:=hSF j (hS j hj);have h2:=HXw.out j hj;exact⟨h1.1,h1.2.1,h1.2.2,by omega⟩
      ·exact⟨fun hc=>by have:=hf hc;omega,fun hc=>by have:=hh hc;omega,by omega,by omega⟩)
     ⟨fun hc=>by have:=HH.out.flt _ hc;simp only at this;omega,fun hc=>by have:=HH.out.hlt _ hc;simp only at this;omega,by simp only;omega,by simp only;omega⟩ _ g6 c6 HO6.out HG6.out HT6.out
    refine⟨rfl,⟨_,_,_,_,hpush.1,by simp,fun j hj=>?_⟩,(HKw.out.mono (fun j hj=>.inr (.inl (hS j hj)))).trans hpush.2 (fun j hj=>?_)⟩
    ·rcases hj with hj|hj|hj|hj
     ·exact .inl hj
     ·rcases HPX.out j hj with hj|hj
      ·exact .inr (.inl (hS j hj))
      ·exact .inr (.inr (by omega))
     ·exact .inr (.inr (by simp only at hj;omega))
     ·rcases HT6.out with e1|e1
      ·exact .inl (HB4.out.rows.foot2 j (by rw [hj];exact e1))
      ·exact .inr (.inr (by omega))
    ·rcases hj with hj|hj
     ·exact .inl (.inl (HB4.out.rows.foot2 j hj))
     ·exact .inl (.inr (.inr hj))
end law
namespace book
open Go.RowKit disk ref
structure Yq (W:World) (ty:TypeId) (Pz:World→Value→Value→Value→World→Prop) (L:Nat→Bool) (x:Nat→Value) (w W1 w2:World) (v0 v1 c:Value):Prop where
 k1:za (fun _=>False) W W1
 post:Pz W1 v0 v1 c w2
 ge:W.heap.size≤w2.heap.size
 x12:x 12=.tuple #[.agg #[v0,v1],c]
 x13:L 13=true→x 13=.tuple #[.agg #[v0,v1],c]
 x14:L 14=true→x 14=.agg #[v0,v1]
 x15:L 15=true→x 15=c
 x18:L 18=true→x 18=c
 no:L 16=false→w=w2∧L 17=false
 yes:L 16=true→∃b,x 16=.pointer (some ⟨b,0,none⟩)∧W.heap.size≤b∧(b<W1.heap.size∨w2.heap.size≤b)∧za (fun k=>k=b) w2 w∧∃u0 u1,w.heap[b]? =some (.cells #[u0,u1] ty (0,0))∧(L 17=true→u0=v0∧u1=v1)
structure qR (W:World) (ty:TypeId) (Z:Nat→Value) (Pz:World→Value→Value→Value→World→Prop) (L:Nat→Bool) (x:Nat→Value) (w:World):Prop where
 pv:∀i,i<12→L i=true→x i=Z i
 early:L 12=false→za (fun _=>False) W w∧L 13=false∧L 14=false∧L 15=false∧L 17=false∧L 18=false
 room:L 12=false→L 16=true→∃b,x 16=.pointer (some ⟨b,0,none⟩)∧W.heap.size≤b∧∃u0 u1,w.heap[b]? =some (.cells #[u0,u1] ty (0,0))
 late:L 12=true→∃W1 w2 v0 v1 c,Yq W ty Pz L x w W1 w2 v0 v1 c
 dep:L 12=true→L 3=true∧L 5=true∧L 7=true∧L 9=true∧L 11=true
section
variable {W:World} {ty:TypeId} {Z:Nat→Value} {Pz:World→Value→Value→Value→World→Prop} {L:Nat→Bool} {x:Nat→Value} {w:World}
theorem qR.start(x:Nat→Value):qR W ty Z Pz (fun _=>false) x W.drew:=⟨fun _ _ h=>(nomatch h),fun _=>⟨za.drew _ W,rfl,rfl,rfl,rfl,rfl⟩,fun _ h=>(nomatch h),fun h=>(nomatch h),fun h=>(nomatch h)⟩
theorem qR.pure(h:qR W ty Z Pz L x w)(i:Nat)(hi:i<12):qR W ty Z Pz (fun j=>decide (j=i)||L j) (fun j=>if j=i then Z i else x j) w:=by
 have o:∀j,12≤j→(decide (j=i)||L j)=L j∧(if j=i then Z i else x j)=x j:=fun j hj=>by
  have:¬j=i:=by omega
  simp [this]
 refine⟨fun j hj hl=>?_,fun hl=>?_,fun h1 h2=>?_,fun hl=>?_,fun hl=>by simp only [(o 12 (by omega)).1] at hl;simp [h.dep hl]⟩
 ·by_cases e:j=i
  ·subst e;simp
  ·simp only [e,if_false];exact h.pv j hj (by simpa [e] using hl)
 ·simp only [(o 12 (by omega)).1,(o 13 (by omega)).1,(o 14 (by omega)).1,(o 15 (by omega)).1,(o 17 (by omega)).1,(o 18 (by omega)).1] at hl ⊢
  exact h.early hl
 ·simp only [(o 12 (by omega)).1,(o 16 (by omega)).1,(o 16 (by omega)).2] at h1 h2 ⊢
  exact h.room h1 h2
 ·simp only [(o 12 (by omega)).1] at hl
  obtain⟨W1,w2,v0,v1,c,q⟩:=h.late hl
  refine⟨W1,w2,v0,v1,c,q.k1,q.post,q.ge,?_,?_,?_,?_,?_,?_,?_⟩<;>simp only [(o 12 (by omega)).2,(o 13 (by omega)).1,(o 13 (by omega)).2,(o 14 (by omega)).1,(o 14 (by omega)).2,(o 15 (by omega)).1,(o 15 (by omega)).2,(o 16 (by omega)).1,(o 16 (by omega)).2,(o 17 (by omega)).1,(o 18 (by omega)).1,(o 18 (by omega)).2]
  ·exact q.x12
  ·exact q.x13
  ·exact q.x14
  ·exact q.x15
  ·exact q.x18
  ·exact q.no
  ·exact q.yes
theorem qR.call(h:qR W ty Z Pz L x w)(hl:L 12=false)(v0 v1 c:Value)(w2:World)(T:Nat→Prop)(hT:∀k,T k→k<W.heap.size)(hk:za T w w2)(hp:Pz w v0 v1 c w2)(hd:L 3=true∧L 5=true∧L 7=true∧L 9=true∧L 11=true):qR W ty Z Pz (fun j=>decide (j=12)||L j) (fun j=>if j=12 then .tuple #[.agg #[v0,v1],c] else x j) w2:=by
 obtain⟨k0,l13,l14,l15,l17,l18⟩:=h.early hl
 refine⟨fun j hj hl=>?_,fun hl=>?_,fun h1=>?_,fun _=>⟨w,w2,v0,v1,c,k0,hp,Nat.le_trans k0.size hk.size,?_,?_,?_,?_,?_,?_,?_⟩,fun _=>by simp [hd]⟩
 ·have e:¬j=12:=by omega
  simp only [e,if_false];exact h.pv j hj (by simpa [e] using hl)
 ·simp at hl
 ·simp at h1
 ·simp
 ·simp [l13]
 ·simp [l14]
 ·simp [l15]
 ·simp [l18]
 ·intro h16;simp [l17]
 ·intro h16
  obtain⟨b,h1,h2,u0,u1,h3⟩:=h.room hl (by simpa using h16)
  have hb:=(lT h3)
  exact⟨b,by simpa using h1,h2,.inl hb,za.refl _ _,u0,u1,(hk.block b hb (fun hc=>by have:=hT b hc;omega)).trans h3,by simp [l17]⟩
theorem qR.part13(h:qR W ty Z Pz L x w)(hl:L 12=true)(hi:L 13=false):qR W ty Z Pz (fun j=>decide (j=13)||L j) (fun j=>if j=13 then x 12 else x j) w:=by
 obtain⟨W1,w2,v0,v1,c,q⟩:=h.late hl
 refine⟨fun j hj hl=>?_,fun h1=>?_,fun h1=>?_,fun _=>⟨W1,w2,v0,v1,c,q.k1,q.post,q.ge,?_,?_,?_,?_,?_,?_,?_⟩,fun _=>by simp [h.dep hl]⟩
 ·have e:¬j=13:=by omega
  simp only [e,if_false];exact h.pv j hj (by simpa [e] using hl)
 ·simp [hl] at h1
 ·simp [hl] at h1
 ·simpa using q.x12
 ·simpa using q.x12
 ·simpa using q.x14
 ·simpa using q.x15
 ·simpa using q.x18
 ·simpa using q.no
 ·simpa using q.yes
theorem qR.part14(h:qR W ty Z Pz L x w)(hl:L 12=true)(v:Value)(hv:∀W1 w2 v0 v1 c,Yq W ty Pz L x w W1 w2 v0 v1 c→v=.agg #[v0,v1]):qR W ty Z Pz (fun j=>decide (j=14)||L j) (fun j=>if j=14 then v else x j) w:=by
 obtain⟨W1,w2,v0,v1,c,q⟩:=h.late hl
 have hq:=hv W1 w2 v0 v1 c q
 refine⟨fun j hj hl=>?_,fun h1=>?_,fun h1=>?_,fun _=>⟨W1,w2,v0,v1,c,q.k1,q.post,q.ge,?_,?_,?_,?_,?_,?_,?_⟩,fun _=>by simp [h.dep hl]⟩
 ·have e:¬j=14:=by omega
  simp only [e,if_false];exact h.pv j hj (by simpa [e] using hl)
 ·simp [hl] at h1
 ·simp [hl] at h1
 ·simpa using q.x12
 ·simpa using q.x13
 ·simpa using hq
 ·simpa using q.x15
 ·simpa using q.x18
 ·simpa using q.no
 ·simpa using q.yes
theorem qR.part15(h:qR W ty Z Pz L x w)(hl:L 12=true)(v:Value)(hv:∀W1 w2 v0 v1 c,Yq W ty Pz L x w W1 w2 v0 v1 c→v=c):qR W ty Z Pz (fun j=>decide (j=15)||L j) (fun j=>if j=15 then v else x j) w:=by
 obtain⟨W1,w2,v0,v1,c,q⟩:=h.late hl
 have hq:=hv W1 w2 v0 v1 c q
 refine⟨fun j hj hl=>?_,fun h1=>?_,fun h1=>?_,fun _=>⟨W1,w2,v0,v1,c,q.k1,q.post,q.ge,?_,?_,?_,?_,?_,?_,?_⟩,fun _=>by simp [h.dep hl]⟩
 ·have e:¬j=15:=by omega
  simp only [e,if_false];exact h.pv j hj (by simpa [e] using hl)
 ·simp [hl] at h1
 ·simp [hl] at h1
 ·simpa using q.x12
 ·simpa using q.x13
 ·simpa using q.x14
 ·simpa using hq
 ·simpa using q.x18
 ·simpa using q.no
 ·simpa using q.yes
theorem qR.part18(h:qR W ty Z Pz L x w)(hl:L 12=true)(v:Value)(hv:∀W1 w2 v0 v1 c,Yq W ty Pz L x w W1 w2 v0 v1 c→v=c):qR W ty Z Pz (fun j=>decide (j=18)||L j) (fun j=>if j=18 then v else x j) w:=by
 obtain⟨W1,w2,v0,v1,c,q⟩:=h.late hl
 have hq:=hv W1 w2 v0 v1 c q
 refine⟨fun j hj hl=>?_,fun h1=>?_,fun h1=>?_,fun _=>⟨W1,w2,v0,v1,c,q.k1,q.post,q.ge,?_,?_,?_,?_,?_,?_,?_⟩,fun _=>by simp [h.dep hl]⟩
 ·have e:¬j=18:=by omega
  simp only [e,if_false];exact h.pv j hj (by simpa [e] using hl)
 ·simp [hl] at h1
 ·simp [hl] at h1
 ·simpa using q.x12
 ·simpa using q.x13
 ·simpa using q.x14
 ·simpa using q.x15
 ·simpa using hq
 ·simpa using q.no
 ·simpa using q.yes
theorem qR.make(h:qR W ty Z Pz L x w)(hi:L 16=false)(u0 u1:Value):qR W ty Z Pz (fun j=>decide (j=16)||L j) (fun j=>if j=16 then .pointer (some ⟨w.heap.size,0,none⟩) else x j) (w.alloc (.cells #[u0,u1] ty)):=by
 have hW:w.heap.size<(w.alloc (.cells #[u0,u1] ty)).heap.size:=by simp
 have hpv:∀j,j<12→(decide (j=16)||L j)=true→(if j=16 then Value.pointer (some ⟨w.heap.size,0,none⟩) else x j)=Z j:=fun j hj hl=>by
  have e:¬j=16:=by omega
  simp only [e,if_false];exact h.pv j hj (by simpa [e] using hl)
 refine⟨hpv,fun h1=>?_,fun h1 _=>?_,fun h1=>?_,fun h1=>by simp [h.dep (by simpa using h1)]⟩
 ·obtain⟨k0,l⟩:=h.early (by simpa using h1)
  exact⟨k0.trans (za.alloc _ _ _) iL,by simpa using l⟩
 ·obtain⟨k0,_⟩:=h.early (by simpa using h1)
  exact⟨w.heap.size,by simp,k0.size,u0,u1,heap_alloc_new w _⟩
 ·obtain⟨W1,w2,v0,v1,c,q⟩:=h.late (by simpa using h1)
  obtain⟨e,l17⟩:=q.no hi
  refine⟨W1,w2,v0,v1,c,q.k1,q.post,q.ge,by simpa using q.x12,by simpa using q.x13,by simpa using q.x14,by simpa using q.x15,by simpa using q.x18,fun h2=>by simp at h2,fun _=>⟨w.heap.size,by simp,by rw [e];exact q.ge,.inr (by rw [e];exact Nat.le_refl _),by rw [e];exact za.alloc _ _ _,u0,u1,heap_alloc_new w _,by simp [l17]⟩⟩
theorem qR.lay(h:qR W ty Z Pz L x w)(hl:L 12=true)(h16:L 16=true)(hi:L 17=false):∃b v0 v1,x 16=.pointer (some ⟨b,0,none⟩)∧(L 14=true→x 14=.agg #[v0,v1])∧(∃u0 u1,w.heap[b]? =some (.cells #[u0,u1] ty (0,0)))∧(∃W1 c w2,Pz W1 v0 v1 c w2)∧
 ∀u,qR W ty Z Pz (fun j=>decide (j=17)||L j) (fun j=>if j=17 then u else x j) ((w.setCell ⟨b,0,none⟩ v0).setCell ⟨b,1,none⟩ v1):=by
 obtain⟨W1,w2,v0,v1,c,q⟩:=h.late hl
 obtain⟨b,h1,h2,h3,h4,u0,u1,h5,h6⟩:=q.yes h16
 refine⟨b,v0,v1,h1,q.x14,⟨u0,u1,h5⟩,⟨W1,c,w2,q.post⟩,fun u=>⟨fun j hj hl=>?_,fun h7=>?_,fun h7=>?_,fun _=>⟨W1,w2,v0,v1,c,q.k1,q.post,q.ge,by simpa using q.x12,by simpa using q.x13,by simpa using q.x14,by simpa using q.x15,by simpa using q.x18,fun h7=>by simp [h16] at h7,fun _=>⟨b,by simpa using h1,h2,h3,?_,v0,v1,?_,fun _=>⟨rfl,rfl⟩⟩⟩,fun _=>by simp [h.dep hl]⟩⟩
 ·have e:¬j=17:=by omega
  simp only [e,if_false];exact h.pv j hj (by simpa [e] using hl)
 ·simp [hl] at h7
 ·simp [hl] at h7
 ·exact(h4.trans (za.setCell (S:=fun k=>k=b) w ⟨b,0,none⟩ v0 rfl) iL).trans (za.setCell (S:=fun k=>k=b) _ ⟨b,1,none⟩ v1 rfl) iL
 ·have e1:=heap_setCell_same w b 0 _ _ v0 h5
  exact heap_setCell_same _ b 1 _ _ v1 e1
end
end book
end Go.Proofs.YtcoengihaobddaaGreatDoor

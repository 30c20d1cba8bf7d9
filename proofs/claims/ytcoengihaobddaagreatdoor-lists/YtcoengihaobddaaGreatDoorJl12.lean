/- Part 12 of 31 of a proof: Law20, Law21, Top1 -/
import Derived.Test.YtcoengihaobddaaGreatDoorJl09
import Derived.Test.YtcoengihaobddaaGreatDoorJl11
import Derived.Deep.Slices
import Derived.ChangeArms
import Derived.SizedLaws
set_option maxHeartbeats 8000000
set_option linter.unusedVariables false
set_option linter.unusedSimpArgs false
set_option maxRecDepth 8000
namespace Go.Proofs.YtcoengihaobddaaGreatDoor
namespace law
open Go.ChangeShapes Go.WideShapes Go.ChangeAt Go.RowKit disk ref book
open keys (zj zd zy zq zt)
def qL(bo f box q:Nat)(od:yf):Nat→Value
 |0=>.pointer (some ⟨bo,0,none⟩)
 |1=>.pointer (some ⟨bo,0,none⟩)
 |2=>.pointer (some ⟨bo,f,none⟩)
 |3=>.pointer (some ⟨q,0,none⟩)
 |4=>.pointer (some ⟨box,5,none⟩)
 |5=>.string od.P
 |6=>.pointer (some ⟨box,4,none⟩)
 |7=>.string od.S
 |8=>.pointer (some ⟨box,2,none⟩)
 |9=>.int .i64 od.B
 |10=>.pointer (some ⟨box,3,none⟩)
 |_=>.int .i64 od.C
structure kx (M:zg) (X R:Nat→Prop) (bo bs bd:Nat) (h:qn) (D:Dk) (S:Nat→Prop) (V:yt) (od:yf) (cc:Int) (W1:World) (v0 v1 c:Value) (w2:World) (D2:Dk) (S2:Nat→Prop) (more:Bool):Prop where
 v1:v1=.bool more
 c:c=.int .i64 cc
 aft:y7 M W1 w2 bd bs S S2 D D2 1000
 ask:bA M w2 bs bd h D D2 V
 pg:Jo W1 w2 S2 V.vs od.P od.S od.B od.C v0 more cc
 bb:X bs∧¬S bs∧¬R bs∧bs≠bo
theorem cM.laid{w0 W1 w2 w3:World}{L:List zO}{m:Int}{v0:Value}{more:Bool}{c:Int}{b1:Nat}(o:cM W1 w2 L m v0 more c)(k1:za (fun _=>False) w0 W1)(hge:w0.heap.size≤b1)(hor:b1<W1.heap.size∨w2.heap.size≤b1)(kb:za (fun k=>k=b1) w2 w3):
 cM w0 w3 L m v0 more c∧∀j,v0.ownBlock=some j→j≠b1:=by
 have hz1:=k1.size
 have hne:∀j,v0.ownBlock=some j→j≠b1:=fun j hj=>by
  by_cases hc:c=0
  ·obtain⟨_,a1,c1,e,h1,h2⟩:=o.yes hc
   rw [e] at hj
   have h3:=h2 j hj
   have h4:=(h1.lt j hj).2
   omega
  ·rw [(o.no hc).1] at hj;cases hj
 refine⟨⟨(k1.trans o.kept iL).trans kb (fun k hk=>.inr (by omega)),fun hc=>?_,o.no⟩,hne⟩
 obtain⟨h0,a1,c1,e,h1,h2⟩:=o.yes hc
 exact⟨h0,a1,c1,e,kb.owns h1 (fun j hj=>by rw [e] at hne;exact hne j hj),fun j hj=>by have:=h2 j hj;omega⟩
theorem cM.form{w w':World}{L:List zO}{m:Int}{v0:Value}{more:Bool}{c:Int}(o:cM w w' L m v0 more c):∃a n k,v0=.slice a n k:=by
 by_cases hc:c=0
 ·obtain⟨_,a1,c1,e,_⟩:=o.yes hc
  exact⟨_,_,_,e⟩
 ·exact⟨_,_,_,(o.no hc).1⟩
theorem kx.form{M:zg}{X R:Nat→Prop}{bo bs bd:Nat}{h:qn}{D:Dk}{S:Nat→Prop}{V:yt}{od:yf}{cc:Int}{W1 w2:World}{v0 v1 c:Value}{D2:Dk}{S2:Nat→Prop}{more:Bool}(o:kx M X R bo bs bd h D S V od cc W1 v0 v1 c w2 D2 S2 more):∃a n k,v0=.slice a n k:=by
 by_cases hc:cc=0
 ·obtain⟨L,_,⟨_,a1,c1,e,_⟩,_⟩:=o.pg.yes hc
  exact⟨_,_,_,e⟩
 ·exact⟨_,_,_,(o.pg.no hc).1⟩
theorem kx.laid{M:zg}{X R:Nat→Prop}{bo bs bd:Nat}{h:qn}{D:Dk}{S:Nat→Prop}{V:yt}{od:yf}{cc:Int}{w0 W1 w2 w3:World}{v0 v1 c:Value}{D2:Dk}{S2:Nat→Prop}{more:Bool}{b1:Nat}(o:kx M X R bo bs bd h D S V od cc W1 v0 v1 c w2 D2 S2 more)(hX:∀k,X k→k<w0.heap.size)(hS:∀k,S k→X k)(k1:za (fun _=>False) w0 W1)(hge:w0.heap.size≤b1)(hor:b1<W1.heap.size∨w2.heap.size≤b1)(kb:za (fun k=>k=b1) w2 w3):
 kx M X R bo bs bd h D S V od cc w0 v0 v1 c w3 D2 S2 more∧∀j,v0.ownBlock=some j→j≠b1:=by
 have hz1:=k1.size
 have hz2:=o.aft.kept.size
 have hS2:¬S2 b1:=fun hc=>by
  rcases hor with h1|h1
  ·rcases o.aft.foot b1 hc with h2|h2
   ·have:=hX _ (hS _ h2);omega
   ·omega
  ·have:=o.aft.disk.lt b1 hc;omega
 have hbs:¬bs=b1:=fun e=>by have:=hX bs o.bb.1;omega
 have hown:∀j,cc=0→v0.ownBlock=some j→W1.heap.size≤j∧j≠b1:=fun j hc hj=>by
  obtain⟨L,_,⟨_,a1,c1,e,h1,h2⟩,_⟩:=o.pg.yes hc
  rw [e] at hj
  have h3:=h2 j hj
  have h4:=(h1.lt j hj).2
  exact⟨h3,by omega⟩
 have hne:∀j,v0.ownBlock=some j→j≠b1:=fun j hj=>by
  by_cases hc:cc=0
  ·exact(hown j hc hj).2
  ·rw [(o.pg.no hc).1] at hj;cases hj
 refine⟨⟨o.v1,o.c,⟨o.aft.disk.kept kb (fun k hk e=>hS2 (by rw [←e];exact hk)),fun k hk=>(o.aft.foot k hk).imp id (fun h=>by omega),((k1.mono fE).trans o.aft.kept iL).trans kb (fun k hk=>.inr (by omega)),o.aft.reads0,o.aft.reads1,o.aft.size,o.aft.fuse⟩,?_,⟨fun hc=>?_,o.pg.no⟩,o.bb⟩,hne⟩
 ·cases o.ask with
  |shut hs sto hD=>exact .shut hs (M.sto_kept _ _ _ _ _ sto kb hbs) hD
  |live hs sto live=>exact .live hs (M.sto_kept _ _ _ _ _ sto kb hbs) live
 ·obtain⟨L,hL,⟨h0,a1,c1,e,h1,h2⟩,h3⟩:=o.pg.yes hc
  exact⟨L,hL,⟨h0,a1,c1,e,kb.owns h1 (fun j hj=>by rw [e] at hne;exact hne j hj),fun j hj=>by have:=h2 j hj;omega⟩,h3⟩
theorem Qx(M:zg)(A:jK M)(w:World)(X:Nat→Prop)(bo t:Nat)(h:qn)(bd:Nat)(D:Dk)(S R:Nat→Prop)(ib:Nat)(V:yt)(last:Int)(hone:xh M w X bo t h bd D S R ib V last)(ht:t≤2199023255552)(bs:Nat)(hbs:h.s=yw bs)
 (od:yf) (Q:Nat→Prop) (hop:od.Ok w Q) (hQ:∀k,Q k→¬X k∧k<w.heap.size) (hkind:od.kind=7)
 (bp:Nat) (lv:Value) (F H:Nat→Prop) (a b:Option Addr) (ca cb:Nat) (es vs:List jo) (hbook:ji w bp lv F H a b ca cb es vs) (hvs:vs.length≤t) (hXF:∀k,X k→¬F k∧¬H k∧k≠bp):
 Calls Tryz.prog 63 #[.pointer (some ⟨bp,0,none⟩),.pointer (some ⟨bo,0,none⟩),.agg #[.int .i64 od.kind,.int .i64 od.A,.int .i64 od.B,.int .i64 od.C,.string od.S,.string od.P,.slice od.la od.l.length od.lc,.slice od.ka od.ks.length od.kc]] w fun e w'=>Jq M w w' X bo t bp lv F H a ca es vs e:=by
 have hxlt:=hone.xlt
 have k0:za (fun _=>False) w (w.alloc (.cells #[.int .i64 od.kind,.int .i64 od.A,.int .i64 od.B,.int .i64 od.C,.string od.S,.string od.P,.slice od.la od.l.length od.lc,.slice od.ka od.ks.length od.kc] 81)):=za.alloc _ _ _
 have hb0:yS (w.alloc (.cells #[.int .i64 od.kind,.int .i64 od.A,.int .i64 od.B,.int .i64 od.C,.string od.S,.string od.P,.slice od.la od.l.length od.lc,.slice od.ka od.ks.length od.kc] 81)) w.heap.size od:=⟨heap_alloc_new w _⟩
 have hop0:=hop.kept k0 nF
 have hone0:=hone.kept k0 nF
 have hs1:w.heap.size<(w.alloc (.cells #[.int .i64 od.kind,.int .i64 od.A,.int .i64 od.B,.int .i64 od.C,.string od.S,.string od.P,.slice od.la od.l.length od.lc,.slice od.ka od.ks.length od.kc] 81)).heap.size:=by simp
 have hc0:=hone0.head.c0
 rw [hone0.hd] at hc0
 unfold yw at hc0
 have hc1:=hone0.head.c1
 rw [hbs] at hc1
 unfold yw at hc1
 have hq4:=hb0.c4
 have hq2:=hb0.c2
 have hq3:=hb0.c3
 have hq5:=hb0.c5
 have hq0:=hb0.c0.trans (congrArg (fun k=>some (Value.int .i64 k)) hkind)
 have HB0:Hid _:=hb0
 have HOP0:Hid _:=hop0
 have HON0:Hid _:=hone0
 have HON:Hid _:=hone
 have HOP:Hid _:=hop
 have HQ:Hid _:=hQ
 have HBS:Hid _:=hbs
 have HX:Hid _:=hxlt
 have hboX:=hxlt bo hone.bX
 have K0:Hid _:=k0
 have HBK:Hid _:=hbook
 have HXF:Hid _:=hXF
 have HS1:Hid _:=hs1
 have hfew:=hone.good.few
 have hr00:=hone.reads0
 have hr01:=hone.reads1
 clear k0 hb0 hop0 hone0 hone hop hQ hbs hxlt hbook hXF hkind hs1
 generalize hW0:w.alloc (.cells #[.int .i64 od.kind,.int .i64 od.A,.int .i64 od.B,.int .i64 od.C,.string od.S,.string od.P,.slice od.la od.l.length od.lc,.slice od.ka od.ks.length od.kc] 81)=w0 at*
 have HW0:Hid _:=hW0
 go_enter Tryz.func63,Tryz.ntmps63
 go_wp2_with fail
 obtain⟨xa,xp,xbc,xpc,hdk⟩:=HON0.out.disk
 refine(yc _ bd S D xa xp xbc xpc hdk).mono ?_
 rintro e w9 ⟨rfl,hw9⟩
 rw [hw9]
 clear hw9 w9 hdk
 go_wp2_with fail
 have hcell:∀w1,za (fun _=>False) w0 w1→w1.cell? ⟨bo,1,none⟩=some (.pointer (some ⟨bs,0,none⟩))∧w1.cell? ⟨w.heap.size,5,none⟩=some (.string od.P)∧w1.cell? ⟨w.heap.size,4,none⟩=some (.string od.S)∧w1.cell? ⟨w.heap.size,2,none⟩=some (.int .i64 od.B)∧w1.cell? ⟨w.heap.size,3,none⟩=some (.int .i64 od.C):=fun w1 k=>by
  have h1:=HS1.out
  exact⟨(k.cell (a:=⟨bo,1,none⟩) (show bo<w0.heap.size by omega) id).trans hc1,(k.cell (a:=⟨w.heap.size,5,none⟩) h1 id).trans hq5,(k.cell (a:=⟨w.heap.size,4,none⟩) h1 id).trans hq4,(k.cell (a:=⟨w.heap.size,2,none⟩) h1 id).trans hq2,(k.cell (a:=⟨w.heap.size,3,none⟩) h1 id).trans hq3⟩
 have HBX:Hid (X bs):=by
  cases HON.out.st with
  |live bs' hs' hX=>have e:bs'=bs:=(by have h9:=HBS.out;rw [hs'] at h9;unfold yw at h9;simpa using h9);rw [←e];exact hX
  |shut bs' hs' hX=>have e:bs'=bs:=(by have h9:=HBS.out;rw [hs'] at h9;unfold yw at h9;simpa using h9);rw [←e];exact hX
  |gone hs'=>have h9:=HBS.out;rw [hs'] at h9;cases h9
 have hSW:∀k,(S k∨k=bs)→k<w0.heap.size:=fun k hk=>HON0.out.xlt k (hk.elim (HON0.out.sX k) (fun e=>by rw [e];exact HBX.out))
 have HSW:Hid (∀k,(S k∨k=bs)→k<w0.heap.size):=hSW
 clear hSW
 refine jk (by kernel_rfl) (by kernel_rfl) (fun L a' w1=>∃x:Nat→Value,a'={tmps:=#[.pointer (some ⟨bp,0,none⟩),.pointer (some ⟨bo,0,none⟩),.agg #[.int .i64 od.kind,.int .i64 od.A,.int .i64 od.B,.int .i64 od.C,.string od.S,.string od.P,.slice od.la od.l.length od.lc,.slice od.ka od.ks.length od.kc],undef,undef,.pointer (some ⟨w.heap.size,0,none⟩),.bool false,.int .i64 D.reads,undef,undef,undef,undef,undef,undef,undef,undef,undef,undef,undef,undef,undef,undef,x 16,x 18,undef,undef,undef,.pointer (some ⟨bo,0,none⟩),.pointer (some ⟨bo,0,none⟩),.pointer (some ⟨bo,0,none⟩),.pointer (some ⟨bd,0,none⟩),.int .i64 D.reads,.pointer (some ⟨w.heap.size,0,none⟩),.int .i64 7,.bool false,.bool false,undef,undef,undef,undef,undef,undef,undef,undef,undef,undef,undef,undef,undef,undef,undef,undef,undef,undef,undef,undef,undef,undef,undef,undef,undef,undef,undef,undef,undef,undef,undef,undef,undef,undef,undef,undef,undef,undef,undef,undef,undef,undef,undef,undef,undef,undef,undef,undef,undef,undef,undef,undef,undef,undef,undef,undef,undef,undef,undef,undef,undef,undef,undef,undef,undef,undef,undef,undef,undef,.bool false,.bool false,undef,undef,undef,undef,undef,undef,undef,undef,undef,undef,undef,undef,undef,undef,undef,undef,undef,undef,undef,undef,undef,undef,undef,undef,undef,undef,undef,undef,undef,undef,undef,undef,undef,undef,undef,undef,undef,undef,undef,undef,undef,undef,undef,undef,undef,undef,undef,undef,undef,undef,undef,undef,undef,undef,undef,undef,undef,undef,undef,undef,undef,undef,x 13,x 0,x 1,x 2,x 3,x 4,x 5,x 6,x 7,x 8,x 9,x 10,x 11,x 12,x 14,x 15,undef,undef,undef,undef,undef,undef,undef,undef,undef,undef,undef,undef,undef,undef,undef,undef,undef,undef,undef,undef,undef,undef,undef,undef,undef,undef,undef,undef,undef,undef,undef,undef,undef,undef,undef,undef,undef,undef,undef,undef,undef,undef,undef,undef,undef,undef,undef,undef,undef,undef],defers:=[]}∧qR w0 90 (qL bo 1 w.heap.size bs od) (fun W1 v0 v1 c w2=>∃D2 S2 more,kx M X R bo bs bd h D S V od (yU h.shut (qs od.P od.S od.B od.C)) W1 v0 v1 c w2 D2 S2 more) L x w1) ?_ ?_ ?_
 ·exact⟨fun _=>undef,rfl,qR.start _⟩
 ·rintro L a' w1 i o ho hL hdep ⟨x,rfl,hI⟩
  have hi:i<19:=(lT ho)
  rcases (by omega:i=0∨i=1∨i=2∨i=3∨i=4∨i=5∨i=6∨i=7∨i=8∨i=9∨i=10∨i=11∨i=12∨i=13∨i=14∨i=15∨i=16∨i=17∨i=18) with rfl|rfl|rfl|rfl|rfl|rfl|rfl|rfl|rfl|rfl|rfl|rfl|rfl|rfl|rfl|rfl|rfl|rfl|rfl
  ·have ho':=Option.some.inj ho;subst ho'
   refine wpOp_step rfl (fun K' hK=>?_)
   skip
   go_simp
   exact hK _ _ ⟨fun j=>if j=0 then qL bo 1 w.heap.size bs od 0 else x j,by simp [qL],hI.pure 0 (by omega)⟩
  ·have ho':=Option.some.inj ho;subst ho'
   have e0:x 0=.pointer (some ⟨bo,0,none⟩):=hI.pv 0 (by omega) (hdep ⟨0,.data⟩ (by simp) rfl)
   refine wpOp_step rfl (fun K' hK=>?_)
   simp only [e0]
   go_simp
   exact hK _ _ ⟨fun j=>if j=1 then qL bo 1 w.heap.size bs od 1 else x j,by simp [e0,qL],hI.pure 1 (by omega)⟩
  ·have ho':=Option.some.inj ho;subst ho'
   have e1:x 1=.pointer (some ⟨bo,0,none⟩):=hI.pv 1 (by omega) (hdep ⟨1,.data⟩ (by simp) rfl)
   refine wpOp_step rfl (fun K' hK=>?_)
   simp only [e1]
   go_simp
   exact hK _ _ ⟨fun j=>if j=2 then qL bo 1 w.heap.size bs od 2 else x j,by simp [e1,qL],hI.pure 2 (by omega)⟩
  ·have ho':=Option.some.inj ho;subst ho'
   have e2:x 2=.pointer (some ⟨bo,1,none⟩):=hI.pv 2 (by omega) (hdep ⟨2,.data⟩ (by simp) rfl)
   have l12:L 12=false:=by
    cases h12:L 12 with
    |false=>rfl
    |true=>have h13:=(hI.dep h12).1;rw [hL] at h13;cases h13
   have cc:=hcell w1 (hI.early l12).1
   have c1:=cc.1
   have c2:=cc.2.1
   have c3:=cc.2.2.1
   have c4:=cc.2.2.2.1
   have c5:=cc.2.2.2.2
   clear cc
   refine wpOp_step rfl (fun K' hK=>?_)
   simp only [e2]
   go_simp
   exact hK _ _ ⟨fun j=>if j=3 then qL bo 1 w.heap.size bs od 3 else x j,by simp [e2,qL],hI.pure 3 (by omega)⟩
  ·have ho':=Option.some.inj ho;subst ho'
   refine wpOp_step rfl (fun K' hK=>?_)
   skip
   go_simp
   exact hK _ _ ⟨fun j=>if j=4 then qL bo 1 w.heap.size bs od 4 else x j,by simp [qL],hI.pure 4 (by omega)⟩
  ·have ho':=Option.some.inj ho;subst ho'
   have e4:x 4=.pointer (some ⟨w.heap.size,5,none⟩):=hI.pv 4 (by omega) (hdep ⟨4,.data⟩ (by simp) rfl)
   have l12:L 12=false:=by
    cases h12:L 12 with
    |false=>rfl
    |true=>have h13:=(hI.dep h12).2.1;rw [hL] at h13;cases h13
   have cc:=hcell w1 (hI.early l12).1
   have c1:=cc.1
   have c2:=cc.2.1
   have c3:=cc.2.2.1
   have c4:=cc.2.2.2.1
   have c5:=cc.2.2.2.2
   clear cc
   refine wpOp_step rfl (fun K' hK=>?_)
   simp only [e4]
   go_simp
   exact hK _ _ ⟨fun j=>if j=5 then qL bo 1 w.heap.size bs od 5 else x j,by simp [e4,qL],hI.pure 5 (by omega)⟩
  ·have ho':=Option.some.inj ho;subst ho'
   refine wpOp_step rfl (fun K' hK=>?_)
   skip
   go_simp
   exact hK _ _ ⟨fun j=>if j=6 then qL bo 1 w.heap.size bs od 6 else x j,by simp [qL],hI.pure 6 (by omega)⟩
  ·have ho':=Option.some.inj ho;subst ho'
   have e6:x 6=.pointer (some ⟨w.heap.size,4,none⟩):=hI.pv 6 (by omega) (hdep ⟨6,.data⟩ (by simp) rfl)
   have l12:L 12=false:=by
    cases h12:L 12 with
    |false=>rfl
    |true=>have h13:=(hI.dep h12).2.2.1;rw [hL] at h13;cases h13
   have cc:=hcell w1 (hI.early l12).1
   have c1:=cc.1
   have c2:=cc.2.1
   have c3:=cc.2.2.1
   have c4:=cc.2.2.2.1
   have c5:=cc.2.2.2.2
   clear cc
   refine wpOp_step rfl (fun K' hK=>?_)
   simp only [e6]
   go_simp
   exact hK _ _ ⟨fun j=>if j=7 then qL bo 1 w.heap.size bs od 7 else x j,by simp [e6,qL],hI.pure 7 (by omega)⟩
  ·have ho':=Option.some.inj ho;subst ho'
   refine wpOp_step rfl (fun K' hK=>?_)
   skip
   go_simp
   exact hK _ _ ⟨fun j=>if j=8 then qL bo 1 w.heap.size bs od 8 else x j,by simp [qL],hI.pure 8 (by omega)⟩
  ·have ho':=Option.some.inj ho;subst ho'
   have e8:x 8=.pointer (some ⟨w.heap.size,2,none⟩):=hI.pv 8 (by omega) (hdep ⟨8,.data⟩ (by simp) rfl)
   have l12:L 12=false:=by
    cases h12:L 12 with
    |false=>rfl
    |true=>have h13:=(hI.dep h12).2.2.2.1;rw [hL] at h13;cases h13
   have cc:=hcell w1 (hI.early l12).1
   have c1:=cc.1
   have c2:=cc.2.1
   have c3:=cc.2.2.1
   have c4:=cc.2.2.2.1
   have c5:=cc.2.2.2.2
   clear cc
   refine wpOp_step rfl (fun K' hK=>?_)
   simp only [e8]
   go_simp
   exact hK _ _ ⟨fun j=>if j=9 then qL bo 1 w.heap.size bs od 9 else x j,by simp [e8,qL],hI.pure 9 (by omega)⟩
  ·have ho':=Option.some.inj ho;subst ho'
   refine wpOp_step rfl (fun K' hK=>?_)
   skip
   go_simp
   exact hK _ _ ⟨fun j=>if j=10 then qL bo 1 w.heap.size bs od 10 else x j,by simp [qL],hI.pure 10 (by omega)⟩
  ·have ho':=Option.some.inj ho;subst ho'
   have e10:x 10=.pointer (some ⟨w.heap.size,3,none⟩):=hI.pv 10 (by omega) (hdep ⟨10,.data⟩ (by simp) rfl)
   have l12:L 12=false:=by
    cases h12:L 12 with
    |false=>rfl
    |true=>have h13:=(hI.dep h12).2.2.2.2;rw [hL] at h13;cases h13
   have cc:=hcell w1 (hI.early l12).1
   have c1:=cc.1
   have c2:=cc.2.1
   have c3:=cc.2.2.1
   have c4:=cc.2.2.2.1
   have c5:=cc.2.2.2.2
   clear cc
   refine wpOp_step rfl (fun K' hK=>?_)
   simp only [e10]
   go_simp
   exact hK _ _ ⟨fun j=>if j=11 then qL bo 1 w.heap.size bs od 11 else x j,by simp [e10,qL],hI.pure 11 (by omega)⟩
  ·have ho':=Option.some.inj ho;subst ho'
   have d3:L 3=true:=(hdep ⟨3,.data⟩ (by simp) rfl)
   have e3:x 3=.pointer (some ⟨bs,0,none⟩):=hI.pv 3 (by omega) d3
   have d5:L 5=true:=(hdep ⟨5,.data⟩ (by simp) rfl)
   have e5:x 5=.string od.P:=hI.pv 5 (by omega) d5
   have d7:L 7=true:=(hdep ⟨7,.data⟩ (by simp) rfl)
   have e7:x 7=.string od.S:=hI.pv 7 (by omega) d7
   have d9:L 9=true:=(hdep ⟨9,.data⟩ (by simp) rfl)
   have e9:x 9=.int .i64 od.B:=hI.pv 9 (by omega) d9
   have d11:L 11=true:=(hdep ⟨11,.data⟩ (by simp) rfl)
   have e11:x 11=.int .i64 od.C:=hI.pv 11 (by omega) d11
   have k01:=(hI.early hL).1
   refine wpOp_step rfl (fun K' hK=>?_)
   simp only [e3,e5,e7,e9,e11]
   go_simp
   refine(Jp M A w1 X bo t h bd D S R ib V last (HON0.out.kept k01 nF) (by omega) bs HBS.out od.P od.S HOP.out.P HOP.out.S od.B od.C HOP.out.B HOP.out.C).mono ?_
   rintro e w2 ⟨D2,S2,v0,more,rfl,haft,hask,hpg,hbb⟩
   exact hK _ _ ⟨fun j=>if j=12 then .tuple #[.agg #[v0,.bool more],.int .i64 (yU h.shut (qs od.P od.S od.B od.C))] else x j,by simp [e3,e5,e7,e9,e11],hI.call hL v0 (.bool more) _ w2 (fun k=>S k∨k=bs) HSW.out haft.kept ⟨D2,S2,more,rfl,rfl,haft,hask,hpg,hbb⟩ ⟨d3,d5,d7,d9,d11⟩⟩
  ·have ho':=Option.some.inj ho;subst ho'
   have d12:L 12=true:=(hdep ⟨12,.data⟩ (by simp) rfl)
   refine wpOp_step rfl (fun K' hK=>?_)
   go_simp
   exact hK _ _ ⟨fun j=>if j=13 then x 12 else x j,by simp,hI.part13 d12 hL⟩
  ·have ho':=Option.some.inj ho;subst ho'
   have d13:L 13=true:=(hdep ⟨13,.data⟩ (by simp) rfl)
   have l12:L 12=true:=by
    cases h12:L 12 with
    |true=>rfl
    |false=>have h13:=(hI.early h12).2.1;rw [d13] at h13;cases h13
   obtain⟨W1,w2,v0,v1,c,q⟩:=hI.late l12
   have e13:=q.x13 d13
   refine wpOp_step rfl (fun K' hK=>?_)
   simp only [e13]
   go_simp
   exact hK _ _ ⟨fun j=>if j=14 then .agg #[v0,v1] else x j,by simp [e13],hI.part14 l12 _ (fun _ _ _ _ _ q'=>by have h9:=q'.x13 d13;rw [e13] at h9;simp at h9;rw [h9.1.1,h9.1.2])⟩
  ·have ho':=Option.some.inj ho;subst ho'
   have d13:L 13=true:=(hdep ⟨13,.data⟩ (by simp) rfl)
   have l12:L 12=true:=by
    cases h12:L 12 with
    |true=>rfl
    |false=>have h13:=(hI.early h12).2.1;rw [d13] at h13;cases h13
   obtain⟨W1,w2,v0,v1,c,q⟩:=hI.late l12
   have e13:=q.x13 d13
   refine wpOp_step rfl (fun K' hK=>?_)
   simp only [e13]
   go_simp
   exact hK _ _ ⟨fun j=>if j=15 then c else x j,by simp [e13],hI.part15 l12 _ (fun _ _ _ _ _ q'=>by have h9:=q'.x13 d13;rw [e13] at h9;simp at h9;exact h9.2)⟩
  ·have ho':=Option.some.inj ho;subst ho'
   refine wpOp_step rfl (fun K' hK=>?_)
   go_simp
   exact hK _ _ ⟨fun j=>if j=16 then .pointer (some ⟨w1.heap.size,0,none⟩) else x j,by simp,hI.make hL _ _⟩
  ·have ho':=Option.some.inj ho;subst ho'
   have d16:L 16=true:=(hdep ⟨16,.data⟩ (by simp) rfl)
   have d14:L 14=true:=(hdep ⟨14,.data⟩ (by simp) rfl)
   have l12:L 12=true:=by
    cases h12:L 12 with
    |true=>rfl
    |false=>have h13:=(hI.early h12).2.2.1;rw [d14] at h13;cases h13
   obtain⟨b,v0,v1,e16,e14,⟨u0,u1,hb⟩,⟨_,_,_,hpz⟩,hnx⟩:=hI.lay l12 d16 hL
   obtain⟨D2,S2,more,hpz⟩:=hpz
   obtain⟨pa,pn,pc,rfl⟩:=hpz.form
   obtain rfl:=hpz.v1
   clear hpz
   have e14:=e14 d14
   have c0:w1.cell? ⟨b,0,none⟩=some u0:=cR hb rfl
   have c1:w1.cell? ⟨b,1,none⟩=some u1:=cR hb rfl
   have f0:=frozen_of_row w1 b 0 _ _ hb
   have f1:=frozen_of_row w1 b 1 _ _ hb
   refine wpOp_step rfl (fun K' hK=>?_)
   simp only [e16,e14]
   go_simp
   exact hK _ _ ⟨fun j=>if j=17 then undef else x j,by simp [e16,e14],hnx undef⟩
  ·have ho':=Option.some.inj ho;subst ho'
   have d15:L 15=true:=(hdep ⟨15,.data⟩ (by simp) rfl)
   have l12:L 12=true:=by
    cases h12:L 12 with
    |true=>rfl
    |false=>have h13:=(hI.early h12).2.2.2.1;rw [d15] at h13;cases h13
   refine wpOp_step rfl (fun K' hK=>?_)
   go_simp
   exact hK _ _ ⟨fun j=>if j=18 then x 15 else x j,by simp,hI.part18 l12 _ (fun _ _ _ _ _ q=>q.x15 d15)⟩
 ·rintro L a' w3 hall ⟨x,rfl,hI⟩
  obtain⟨W1,w2,v0,v1,c,q⟩:=hI.late (hall 12 (by decide))
  obtain⟨D2,S2,more,hout⟩:=q.post
  obtain⟨b1,e16,hb1,hor1,kb1,u0,u1,hblk1,hu1⟩:=q.yes (hall 16 (by decide))
  obtain⟨rfl,rfl⟩:=hu1 (hall 17 (by decide))
  have e18:=q.x18 (hall 18 (by decide))
  obtain⟨hl,hne1⟩:=hout.laid HON0.out.xlt HON0.out.sX q.k1 hb1 hor1 kb1
  rw [hl.c] at e18
  rw [e16,e18]
  have hsz3:=hl.aft.kept.size
  have hb1l:=(lT hblk1)
  clear hcell hI hall hout hor1 kb1 e16 e18 q
  obtain⟨pa,pn,pc,rfl⟩:=hl.form
  obtain rfl:=hl.v1
  have haft:y7 M w0.drew w3 bd bs S S2 D D2 1000:=⟨hl.aft.disk,hl.aft.foot,⟨hl.aft.kept.os,hl.aft.kept.tape,hl.aft.kept.output,hl.aft.kept.size,hl.aft.kept.block⟩,hl.aft.reads0,hl.aft.reads1,hl.aft.size,hl.aft.fuse⟩
  have HM2:Hid (X0 w.heap.size w3 bo h bd D2 S2 R ib V last od Q):=bz HON0.out HX.out HB0.out HOP0.out HQ.out HS1.out haft hl.bb
  have HAFT:Hid (y7 M w0.drew w3 bd bs S S2 D D2 1000):=haft
  have HASK:Hid (bA M w3 bs bd h D D2 V):=hl.ask
  have HPG:Hid (Jo w0 w3 S2 V.vs od.P od.S od.B od.C (.slice pa pn pc) more (yU h.shut (qs od.P od.S od.B od.C))):=hl.pg
  have HBB:Hid (X bs∧¬S bs∧¬R bs∧bs≠bo):=hl.bb
  have HNE1:Hid (∀j,(Value.slice pa pn pc).ownBlock=some j→j≠b1):=hne1
  have HBK1:Hid (w3.heap[b1]? =some (.cells #[.slice pa pn pc,.bool more] 90 (0,0))):=hblk1
  obtain⟨L0,hL0⟩:∃L0,xA V.vs od.P od.S od.B L0:=⟨_,cv V.vs HON.out.good.apart od.P od.S od.B⟩
  have HL0:Hid (xA V.vs od.P od.S od.B L0):=hL0
  have HKS:Hid (∀v∈V.vs,v.key.size≤9223372036854775807):=fun v hv=>by
   have h9:=HON.out.good.key v hv
   unfold zt at h9
   simp only [Bool.and_eq_true,decide_eq_true_eq] at h9
   have h8:v.key.data.toList.length=v.key.size:=by simp
   omega
  have HRW:Hid (∀k,R k→k<w3.heap.size):=fun k hk=>by
   have:=HX.out k (HON.out.rX k hk).1;have:=HS1.out;omega
  generalize hcc:yU h.shut (qs od.P od.S od.B od.C)=cc at*
  have HCC:Hid (yU h.shut (qs od.P od.S od.B od.C)=cc):=hcc
  have r2:=HM2.out.head.c2
  rw [HON.out.his] at r2
  unfold yw at r2
  have t2:=HM2.out.box.c2
  have t3:=HM2.out.box.c3
  have t4:=HM2.out.box.c4
  have t5:=HM2.out.box.c5
  have hcell:∀w1,za (fun _=>False) w3 w1→w1.cell? ⟨bo,2,none⟩=some (.pointer (some ⟨ib,0,none⟩))∧w1.cell? ⟨w.heap.size,5,none⟩=some (.string od.P)∧w1.cell? ⟨w.heap.size,4,none⟩=some (.string od.S)∧w1.cell? ⟨w.heap.size,2,none⟩=some (.int .i64 od.B)∧w1.cell? ⟨w.heap.size,3,none⟩=some (.int .i64 od.C):=fun w1 k=>by
   have h1:=HS1.out
   have h2:w.heap.size<w3.heap.size:=by omega
   exact⟨(k.cell (a:=⟨bo,2,none⟩) (show bo<w3.heap.size by omega) id).trans r2,(k.cell (a:=⟨w.heap.size,5,none⟩) h2 id).trans t5,(k.cell (a:=⟨w.heap.size,4,none⟩) h2 id).trans t4,(k.cell (a:=⟨w.heap.size,2,none⟩) h2 id).trans t2,(k.cell (a:=⟨w.heap.size,3,none⟩) h2 id).trans t3⟩
  clear hl haft hne1 hblk1 hL0 hcc r2 t2 t3 t4 t5
  go_wp2_with fail
  refine jk (by kernel_rfl) (by kernel_rfl) (fun L a' w1=>∃y:Nat→Value,a'={tmps:=#[.pointer (some ⟨bp,0,none⟩),.pointer (some ⟨bo,0,none⟩),.agg #[.int .i64 od.kind,.int .i64 od.A,.int .i64 od.B,.int .i64 od.C,.string od.S,.string od.P,.slice od.la od.l.length od.lc,.slice od.ka od.ks.length od.kc],undef,undef,.pointer (some ⟨w.heap.size,0,none⟩),.bool false,.int .i64 D.reads,undef,undef,undef,undef,undef,undef,undef,undef,undef,undef,undef,undef,undef,undef,.pointer (some ⟨b1,0,none⟩),.int .i64 cc,y 16,y 18,undef,.pointer (some ⟨bo,0,none⟩),.pointer (some ⟨bo,0,none⟩),.pointer (some ⟨bo,0,none⟩),.pointer (some ⟨bd,0,none⟩),.int .i64 D.reads,.pointer (some ⟨w.heap.size,0,none⟩),.int .i64 7,.bool false,.bool false,undef,undef,undef,undef,undef,undef,undef,undef,undef,undef,undef,undef,undef,undef,undef,undef,undef,undef,undef,undef,undef,undef,undef,undef,undef,undef,undef,undef,undef,undef,undef,undef,undef,undef,undef,undef,undef,undef,undef,undef,undef,undef,undef,undef,undef,undef,undef,undef,undef,undef,undef,undef,undef,undef,undef,undef,undef,undef,undef,undef,undef,undef,undef,undef,undef,undef,undef,undef,undef,.bool false,.bool false,undef,undef,undef,undef,undef,undef,undef,undef,undef,undef,undef,undef,undef,undef,undef,undef,undef,undef,undef,undef,undef,undef,undef,undef,undef,undef,undef,undef,undef,undef,undef,undef,undef,undef,undef,undef,undef,undef,undef,undef,undef,undef,undef,undef,undef,undef,undef,undef,undef,undef,undef,undef,undef,undef,undef,undef,undef,undef,undef,undef,undef,undef,x 13,x 0,x 1,x 2,x 3,x 4,x 5,x 6,x 7,x 8,x 9,x 10,x 11,x 12,x 14,x 15,y 13,y 0,y 1,y 2,y 3,y 4,y 5,y 6,y 7,y 8,y 9,y 10,y 11,y 12,y 14,y 15,undef,undef,undef,undef,undef,undef,undef,undef,undef,undef,undef,undef,undef,undef,undef,undef,undef,undef,undef,undef,undef,undef,undef,undef,undef,undef,undef,undef,undef,undef,undef,undef,undef,undef],defers:=[]}∧qR w3 90 (qL bo 2 w.heap.size ib od) (fun W1 v0 v1 c w2=>∃more2,v1=.bool more2∧c=.int .i64 (qs od.P od.S od.B od.C)∧cM W1 w2 L0 od.C v0 more2 (qs od.P od.S od.B od.C)) L y w1) ?_ ?_ ?_
  ·exact⟨fun _=>undef,rfl,qR.start _⟩
  ·rintro L a' w1 i o ho hL hdep ⟨y,rfl,hI⟩
   have hi:i<19:=(lT ho)
   rcases (by omega:i=0∨i=1∨i=2∨i=3∨i=4∨i=5∨i=6∨i=7∨i=8∨i=9∨i=10∨i=11∨i=12∨i=13∨i=14∨i=15∨i=16∨i=17∨i=18) with rfl|rfl|rfl|rfl|rfl|rfl|rfl|rfl|rfl|rfl|rfl|rfl|rfl|rfl|rfl|rfl|rfl|rfl|rfl
   ·have ho':=Option.some.inj ho;subst ho'
    refine wpOp_step rfl (fun K' hK=>?_)
    skip
    go_simp
    exact hK _ _ ⟨fun j=>if j=0 then qL bo 2 w.heap.size ib od 0 else y j,by simp [qL],hI.pure 0 (by omega)⟩
   ·have ho':=Option.some.inj ho;subst ho'
    have e0:y 0=.pointer (some ⟨bo,0,none⟩):=hI.pv 0 (by omega) (hdep ⟨0,.data⟩ (by simp) rfl)
    refine wpOp_step rfl (fun K' hK=>?_)
    simp only [e0]
    go_simp
    exact hK _ _ ⟨fun j=>if j=1 then qL bo 2 w.heap.size ib od 1 else y j,by simp [e0,qL],hI.pure 1 (by omega)⟩
   ·have ho':=Option.some.inj ho;subst ho'
    have e1:y 1=.pointer (some ⟨bo,0,none⟩):=hI.pv 1 (by omega) (hdep ⟨1,.data⟩ (by simp) rfl)
    refine wpOp_step rfl (fun K' hK=>?_)
    simp only [e1]
    go_simp
    exact hK _ _ ⟨fun j=>if j=2 then qL bo 2 w.heap.size ib od 2 else y j,by simp [e1,qL],hI.pure 2 (by omega)⟩
   ·have ho':=Option.some.inj ho;subst ho'
    have e2:y 2=.pointer (some ⟨bo,2,none⟩):=hI.pv 2 (by omega) (hdep ⟨2,.data⟩ (by simp) rfl)
    have l12:L 12=false:=by
     cases h12:L 12 with
     |false=>rfl
     |true=>have h13:=(hI.dep h12).1;rw [hL] at h13;cases h13
    have cc:=hcell w1 (hI.early l12).1
    have c1:=cc.1
    have c2:=cc.2.1
    have c3:=cc.2.2.1
    have c4:=cc.2.2.2.1
    have c5:=cc.2.2.2.2
    clear cc
    refine wpOp_step rfl (fun K' hK=>?_)
    simp only [e2]
    go_simp
    exact hK _ _ ⟨fun j=>if j=3 then qL bo 2 w.heap.size ib od 3 else y j,by simp [e2,qL],hI.pure 3 (by omega)⟩
   ·have ho':=Option.some.inj ho;subst ho'
    refine wpOp_step rfl (fun K' hK=>?_)
    skip
    go_simp
    exact hK _ _ ⟨fun j=>if j=4 then qL bo 2 w.heap.size ib od 4 else y j,by simp [qL],hI.pure 4 (by omega)⟩
   ·have ho':=Option.some.inj ho;subst ho'
    have e4:y 4=.pointer (some ⟨w.heap.size,5,none⟩):=hI.pv 4 (by omega) (hdep ⟨4,.data⟩ (by simp) rfl)
    have l12:L 12=false:=by
     cases h12:L 12 with
     |false=>rfl
     |true=>have h13:=(hI.dep h12).2.1;rw [hL] at h13;cases h13
    have cc:=hcell w1 (hI.early l12).1
    have c1:=cc.1
    have c2:=cc.2.1
    have c3:=cc.2.2.1
    have c4:=cc.2.2.2.1
    have c5:=cc.2.2.2.2
    clear cc
    refine wpOp_step rfl (fun K' hK=>?_)
    simp only [e4]
    go_simp
    exact hK _ _ ⟨fun j=>if j=5 then qL bo 2 w.heap.size ib od 5 else y j,by simp [e4,qL],hI.pure 5 (by omega)⟩
   ·have ho':=Option.some.inj ho;subst ho'
    refine wpOp_step rfl (fun K' hK=>?_)
    skip
    go_simp
    exact hK _ _ ⟨fun j=>if j=6 then qL bo 2 w.heap.size ib od 6 else y j,by simp [qL],hI.pure 6 (by omega)⟩
   ·have ho':=Option.some.inj ho;subst ho'
    have e6:y 6=.pointer (some ⟨w.heap.size,4,none⟩):=hI.pv 6 (by omega) (hdep ⟨6,.data⟩ (by simp) rfl)
    have l12:L 12=false:=by
     cases h12:L 12 with
     |false=>rfl
     |true=>have h13:=(hI.dep h12).2.2.1;rw [hL] at h13;cases h13
    have cc:=hcell w1 (hI.early l12).1
    have c1:=cc.1
    have c2:=cc.2.1
    have c3:=cc.2.2.1
    have c4:=cc.2.2.2.1
    have c5:=cc.2.2.2.2
    clear cc
    refine wpOp_step rfl (fun K' hK=>?_)
    simp only [e6]
    go_simp
    exact hK _ _ ⟨fun j=>if j=7 then qL bo 2 w.heap.size ib od 7 else y j,by simp [e6,qL],hI.pure 7 (by omega)⟩
   ·have ho':=Option.some.inj ho;subst ho'
    refine wpOp_step rfl (fun K' hK=>?_)
    skip
    go_simp
    exact hK _ _ ⟨fun j=>if j=8 then qL bo 2 w.heap.size ib od 8 else y j,by simp [qL],hI.pure 8 (by omega)⟩
   ·have ho':=Option.some.inj ho;subst ho'
    have e8:y 8=.pointer (some ⟨w.heap.size,2,none⟩):=hI.pv 8 (by omega) (hdep ⟨8,.data⟩ (by simp) rfl)
    have l12:L 12=false:=by
     cases h12:L 12 with
     |false=>rfl
     |true=>have h13:=(hI.dep h12).2.2.2.1;rw [hL] at h13;cases h13
    have cc:=hcell w1 (hI.early l12).1
    have c1:=cc.1
    have c2:=cc.2.1
    have c3:=cc.2.2.1
    have c4:=cc.2.2.2.1
    have c5:=cc.2.2.2.2
    clear cc
    refine wpOp_step rfl (fun K' hK=>?_)
    simp only [e8]
    go_simp
    exact hK _ _ ⟨fun j=>if j=9 then qL bo 2 w.heap.size ib od 9 else y j,by simp [e8,qL],hI.pure 9 (by omega)⟩
   ·have ho':=Option.some.inj ho;subst ho'
    refine wpOp_step rfl (fun K' hK=>?_)
    skip
    go_simp
    exact hK _ _ ⟨fun j=>if j=10 then qL bo 2 w.heap.size ib od 10 else y j,by simp [qL],hI.pure 10 (by omega)⟩
   ·have ho':=Option.some.inj ho;subst ho'
    have e10:y 10=.pointer (some ⟨w.heap.size,3,none⟩):=hI.pv 10 (by omega) (hdep ⟨10,.data⟩ (by simp) rfl)
    have l12:L 12=false:=by
     cases h12:L 12 with
     |false=>rfl
     |true=>have h13:=(hI.dep h12).2.2.2.2;rw [hL] at h13;cases h13
    have cc:=hcell w1 (hI.early l12).1
    have c1:=cc.1
    have c2:=cc.2.1
    have c3:=cc.2.2.1
    have c4:=cc.2.2.2.1
    have c5:=cc.2.2.2.2
    clear cc
    refine wpOp_step rfl (fun K' hK=>?_)
    simp only [e10]
    go_simp
    exact hK _ _ ⟨fun j=>if j=11 then qL bo 2 w.heap.size ib od 11 else y j,by simp [e10,qL],hI.pure 11 (by omega)⟩
   ·have ho':=Option.some.inj ho;subst ho'
    have d3:L 3=true:=(hdep ⟨3,.data⟩ (by simp) rfl)
    have e3:y 3=.pointer (some ⟨ib,0,none⟩):=hI.pv 3 (by omega) d3
    have d5:L 5=true:=(hdep ⟨5,.data⟩ (by simp) rfl)
    have e5:y 5=.string od.P:=hI.pv 5 (by omega) d5
    have d7:L 7=true:=(hdep ⟨7,.data⟩ (by simp) rfl)
    have e7:y 7=.string od.S:=hI.pv 7 (by omega) d7
    have d9:L 9=true:=(hdep ⟨9,.data⟩ (by simp) rfl)
    have e9:y 9=.int .i64 od.B:=hI.pv 9 (by omega) d9
    have d11:L 11=true:=(hdep ⟨11,.data⟩ (by simp) rfl)
    have e11:y 11=.int .i64 od.C:=hI.pv 11 (by omega) d11
    have k01:=(hI.early hL).1
    refine wpOp_step rfl (fun K' hK=>?_)
    simp only [e3,e5,e7,e9,e11]
    go_simp
    refine(Xc w1 R R ib V.vs last (HM2.out.ref.kept k01 nF nF) (fun k hk=>Nat.lt_of_lt_of_le (HRW.out k hk) k01.size) (fun k hk=>Nat.lt_of_lt_of_le (HRW.out k hk) k01.size) HON.out.good.apart hfew HKS.out od.P od.S od.B od.C HOP.out.P HOP.out.S L0 HL0.out).mono ?_
    rintro e w2 ⟨y0,more2,rfl,hrl⟩
    exact hK _ _ ⟨fun j=>if j=12 then .tuple #[.agg #[y0,.bool more2],.int .i64 (qs od.P od.S od.B od.C)] else y j,by simp [e3,e5,e7,e9,e11],hI.call hL y0 (.bool more2) _ w2 (fun _=>False) fE hrl.kept ⟨more2,rfl,rfl,hrl⟩ ⟨d3,d5,d7,d9,d11⟩⟩
   ·have ho':=Option.some.inj ho;subst ho'
    have d12:L 12=true:=(hdep ⟨12,.data⟩ (by simp) rfl)
    refine wpOp_step rfl (fun K' hK=>?_)
    go_simp
    exact hK _ _ ⟨fun j=>if j=13 then y 12 else y j,by simp,hI.part13 d12 hL⟩
   ·have ho':=Option.some.inj ho;subst ho'
    have d13:L 13=true:=(hdep ⟨13,.data⟩ (by simp) rfl)
    have l12:L 12=true:=by
     cases h12:L 12 with
     |true=>rfl
     |false=>have h13:=(hI.early h12).2.1;rw [d13] at h13;cases h13
    obtain⟨W1,w2,v0,v1,c,q⟩:=hI.late l12
    have e13:=q.x13 d13
    refine wpOp_step rfl (fun K' hK=>?_)
    simp only [e13]
    go_simp
    exact hK _ _ ⟨fun j=>if j=14 then .agg #[v0,v1] else y j,by simp [e13],hI.part14 l12 _ (fun _ _ _ _ _ q'=>by have h9:=q'.x13 d13;rw [e13] at h9;simp at h9;rw [h9.1.1,h9.1.2])⟩
   ·have ho':=Option.some.inj ho;subst ho'
    have d13:L 13=true:=(hdep ⟨13,.data⟩ (by simp) rfl)
    have l12:L 12=true:=by
     cases h12:L 12 with
     |true=>rfl
     |false=>have h13:=(hI.early h12).2.1;rw [d13] at h13;cases h13
    obtain⟨W1,w2,v0,v1,c,q⟩:=hI.late l12
    have e13:=q.x13 d13
    refine wpOp_step rfl (fun K' hK=>?_)
    simp only [e13]
    go_simp
    exact hK _ _ ⟨fun j=>if j=15 then c else y j,by simp [e13],hI.part15 l12 _ (fun _ _ _ _ _ q'=>by have h9:=q'.x13 d13;rw [e13] at h9;simp at h9;exact h9.2)⟩
   ·have ho':=Option.some.inj ho;subst ho'
    refine wpOp_step rfl (fun K' hK=>?_)
    go_simp
    exact hK _ _ ⟨fun j=>if j=16 then .pointer (some ⟨w1.heap.size,0,none⟩) else y j,by simp,hI.make hL _ _⟩
   ·have ho':=Option.some.inj ho;subst ho'
    have d16:L 16=true:=(hdep ⟨16,.data⟩ (by simp) rfl)
    have d14:L 14=true:=(hdep ⟨14,.data⟩ (by simp) rfl)
    have l12:L 12=true:=by
     cases h12:L 12 with
     |true=>rfl
     |false=>have h13:=(hI.early h12).2.2.1;rw [d14] at h13;cases h13
    obtain⟨b,v0,v1,e16,e14,⟨u0,u1,hb⟩,⟨_,_,_,hpz⟩,hnx⟩:=hI.lay l12 d16 hL
    obtain⟨more2,rfl,_,hpz⟩:=hpz
    obtain⟨pa2,pn2,pc2,rfl⟩:=hpz.form
    clear hpz
    have e14:=e14 d14
    have c0:w1.cell? ⟨b,0,none⟩=some u0:=cR hb rfl
    have c1:w1.cell? ⟨b,1,none⟩=some u1:=cR hb rfl
    have f0:=frozen_of_row w1 b 0 _ _ hb
    have f1:=frozen_of_row w1 b 1 _ _ hb
    refine wpOp_step rfl (fun K' hK=>?_)
    simp only [e16,e14]
    go_simp
    exact hK _ _ ⟨fun j=>if j=17 then undef else y j,by simp [e16,e14],hnx undef⟩
   ·have ho':=Option.some.inj ho;subst ho'
    have d15:L 15=true:=(hdep ⟨15,.data⟩ (by simp) rfl)
    have l12:L 12=true:=by
     cases h12:L 12 with
     |true=>rfl
     |false=>have h13:=(hI.early h12).2.2.2.1;rw [d15] at h13;cases h13
    refine wpOp_step rfl (fun K' hK=>?_)
    go_simp
    exact hK _ _ ⟨fun j=>if j=18 then y 15 else y j,by simp,hI.part18 l12 _ (fun _ _ _ _ _ q=>q.x15 d15)⟩
  ·rintro L a' w5 hall ⟨y,rfl,hI⟩
   obtain⟨W2,w4,y0,y1,c2,q2⟩:=hI.late (hall 12 (by decide))
   obtain⟨more2,hy1,hc2,hrl0⟩:=q2.post
   obtain⟨b2,e16,hb2,hor2,kb2,u0,u1,hblk2,hu2⟩:=q2.yes (hall 16 (by decide))
   obtain⟨rfl,rfl⟩:=hu2 (hall 17 (by decide))
   have e18:=q2.x18 (hall 18 (by decide))
   obtain⟨hrl,hne2⟩:=hrl0.laid q2.k1 hb2 hor2 kb2
   rw [hc2] at e18
   rw [e16,e18]
   obtain⟨pa2,pn2,pc2,rfl⟩:=hrl.form
   subst hy1
   have hsz5:=hrl.kept.size
   have hb2l:=(lT hblk2)
   have HRL:Hid (cM w3 w5 L0 od.C (.slice pa2 pn2 pc2) more2 (qs od.P od.S od.B od.C)):=hrl
   have HBK2:Hid (w5.heap[b2]? =some (.cells #[.slice pa2 pn2 pc2,.bool more2] 90 (0,0))):=hblk2
   have HBK5:Hid (w5.heap[b1]? =some (.cells #[.slice pa pn pc,.bool more] 90 (0,0))):=(hrl.kept.block _ hb1l id).trans HBK1.out
   have HM5:Hid (X0 w.heap.size w5 bo h bd D2 S2 R ib V last od Q):=HM2.out.kept hrl.kept fE
   have HK35:Hid (za (fun _=>False) w3 w5):=hrl.kept
   clear hcell hI hall hrl0 hor2 kb2 e16 e18 q2 hc2 hrl hne2 hblk2
   have hk03:za (fun k=>S k∨k=bs) w w3:=((K0.out.mono fE).trans (za.drew _ w0) iL).trans HAFT.out.kept iL
   have HK03:Hid (za (fun k=>S k∨k=bs) w w3):=hk03
   have HBK5b:Hid (ji w5 bp lv F H a b ca cb es vs):=(HBK.out.kept hk03 (fun i hi hc=>by
    rcases hc with hc|hc
    ·exact(HXF.out i (HON.out.sX i hc)).1 hi
    ·exact(HXF.out i (by rw [hc];exact HBB.out.1)).1 hi) (fun i hi hc=>by
    rcases hc with hc|hc
    ·exact(HXF.out i (HON.out.sX i hc)).2.1 hi
    ·exact(HXF.out i (by rw [hc];exact HBB.out.1)).2.1 hi) (fun hc=>by
    rcases hc with hc|hc
    ·exact(HXF.out bp (HON.out.sX bp hc)).2.2 rfl
    ·exact(HXF.out bs HBB.out.1).2.2 hc.symm)).kept HK35.out nF nF (fun hf=>hf)
   have hXS:∀k,(X k∨S2 k)→¬F k∧¬H k∧k≠bp:=fun k hk=>by
    rcases hk with hk|hk
    ·exact HXF.out k hk
    ·rcases HAFT.out.foot k hk with h1|h1
     ·exact HXF.out k (HON.out.sX k h1)
     ·have h2:w0.heap.size≤k:=h1
      have h3:=HS1.out
      exact⟨fun hc=>by have:=HBK.out.flt k hc;omega,fun hc=>by have:=HBK.out.hlt k hc;omega,fun hc=>by have:=HBK.out.head.lt;omega⟩
   have HXS:Hid (∀k,(X k∨S2 k)→¬F k∧¬H k∧k≠bp):=hXS
   have HXf:Hid (∀k,(X k∨S2 k)→X k∨w.heap.size≤k):=fun k hk=>by
    rcases hk with hk|hk
    ·exact .inl hk
    ·rcases HAFT.out.foot k hk with h1|h1
     ·exact .inl (HON.out.sX k h1)
     ·have h2:w0.heap.size≤k:=h1
      have h3:=HS1.out
      exact .inr (by omega)
   have HKA:Hid (za (fun _=>False) w w0.drew):=K0.out.trans (za.drew _ w0) iL
   clear hk03 hXS
   go_wp2_with fail
   refine(cI _ bo h (by exact HM5.out.head) _).mono ?_
   rintro e w9 ⟨rfl,hw9⟩
   rw [hw9,HCC.out]
   clear hw9 w9
   have z0:w5.cell? ⟨b1,0,none⟩=some (.slice pa pn pc):=cR HBK5.out rfl
   have z1:w5.cell? ⟨b1,1,none⟩=some (.bool more):=cR HBK5.out rfl
   have z2:w5.cell? ⟨b2,0,none⟩=some (.slice pa2 pn2 pc2):=cR HBK2.out rfl
   have z3:w5.cell? ⟨b2,1,none⟩=some (.bool more2):=cR HBK2.out rfl
   by_cases hc:cc=0
   ·obtain⟨L1,hL1,⟨hm1,a1,k1,hp1,ho1,hg1⟩,hS1'⟩:=HPG.out.yes hc
    have hle:=Qr (HCC.out.trans hc)
    obtain⟨hm2,a2,k2,hp2,ho2,hg2⟩:=HRL.out.yes hle
    obtain rfl:L1=L0:=hL1.unique HL0.out (List.Perm.refl _)
    obtain⟨hC1,hC50⟩:=g8 hle
    have hmm:more2=more:=by rw [hm1,hm2]
    subst hmm
    have hlen:(L1.take od.C.toNat).length≤50:=by rw [List.length_take];omega
    cases hp1
    cases hp2
    clear hm1 hm2 hL1
    generalize L1.take od.C.toNat=T at*
    have HO1:Hid (w5.ownsRow 0 94 4 (.slice pa T.length pc) T.length (yM T)):=HK35.out.owns ho1 nF
    have HO2:Hid (w5.ownsRow 0 94 4 (.slice pa2 T.length pc2) T.length (yM T)):=ho2
    have HOW:Hid (∀k,(Value.slice pa T.length pc).ownBlock=some k→w.heap.size<k∧¬S2 k):=fun k hk=>by
     have h1:=hg1 k hk
     have h3:=HS1.out
     exact⟨by omega,hS1' k hk⟩
    have e2:(cc !=0)=false:=by simpa using hc
    clear ho1 ho2 hg1 hg2 hS1' hc hle
    go_wp2_with fail
    refine(dd w5 pa pa2 pc pc2 T more2 (by omega) HO1.out HO2.out).mono ?_
    rintro e w6 ⟨rfl,hk6⟩
    have HK6:Hid (za (fun _=>False) w5 w6):=hk6
    have HBK6:Hid (ji w6.drew bp lv F H a b ca cb es vs):=(HBK5b.out.kept hk6 nF nF (fun hf=>hf)).kept (za.drew (fun _=>False) w6) nF nF (fun hf=>hf)
    have HO6:Hid (w6.drew.ownsRow 0 94 4 (.slice pa T.length pc) T.length (yM T)):=(za.drew (fun _=>False) w6).owns (hk6.owns HO1.out nF) nF
    have hsz6:=hk6.size
    have z6:w6.cell? ⟨b1,0,none⟩=some (.slice pa T.length pc):=(hk6.cell (a:=⟨b1,0,none⟩) (show b1<w5.heap.size by omega) id).trans z0
    have hb16:b1<w6.heap.size:=by omega
    have hbw:w.heap.size<b1:=by have:=HS1.out;omega
    have HNF:Hid (∀k,(Value.slice pa T.length pc).ownBlock=some k→¬F k∧¬H k∧k≠bp):=fun k hk=>by
     have h1:=(HOW.out k hk).1
     exact⟨fun hc=>by have:=HBK.out.flt k hc;omega,fun hc=>by have:=HBK.out.hlt k hc;omega,fun hc=>by have:=HBK.out.head.lt;omega⟩
    have HNB:Hid (¬(H b1∨(Value.slice pa T.length pc).ownBlock=some b1∨b1=bp)):=fun hc=>by
     rcases hc with hc|hc|hc
     ·have:=HBK.out.hlt b1 hc;omega
     ·exact HNE1.out b1 hc rfl
     ·have:=HBK.out.head.lt;omega
    clear hk6
    go_wp2_with fail
    go_region_held3 (fun w'=>w'.cell? ⟨b1,0,none⟩=some (.slice pa T.length pc)) (go_keep) ((go_at_call 110;refine(xv w6.drew bp lv F H (fun k=>(Value.slice pa T.length pc).ownBlock=some k) a b ca cb es vs HBK6.out (by omega) pa T.length pc (yM T) HO6.out (by omega) (fun k hk=>hk) HNF.out).mono ?_;rintro e w7 ⟨rfl,⟨b7,cb7,vs7,H7,hbk7,hl7,hH7⟩,hk7⟩;have HBK7:Hid _:=hbk7;have HH7:Hid _:=hH7;have HK7:Hid (za (fun k=>H k∨(Value.slice pa T.length pc).ownBlock=some k∨k=bp) w6 w7):=⟨hk7.os,hk7.tape,hk7.output,hk7.size,hk7.block⟩;have z7:w7.cell? ⟨b1,0,none⟩=some (.slice pa T.length pc):=(HK7.out.cell (a:=⟨b1,0,none⟩) hb16 HNB.out).trans z6;clear hbk7 hH7 hk7))
    go_wp2
    go_ret
    have hXlt:=HX.out
    have HK37:za (fun k=>H k∨(Value.slice pa T.length pc).ownBlock=some k∨k=bp) w3 w7:=((HK35.out.mono fE).trans HK6.out fE).trans HK7.out iL
    have hw3:w.heap.size<w3.heap.size:=by have:=HS1.out;omega
    refine⟨rfl,⟨_,H7,b7,cb7,vs7,cK M w w0.drew w3 w7 X bo t h bd D D2 S S2 R ib V last HON.out bs HBS.out HKA.out (Nat.le_of_lt HS1.out) HAFT.out HBB.out HASK.out _ HK37 (fun k hk=>?_),HBK7.out,by omega,HXf.out,fun k hk=>?_,fun k hk=>⟨(HXS.out k hk).1,fun hf=>?_,(HXS.out k hk).2.2⟩⟩,(HK03.out.mono (fun k hk=>.inl (hk.elim (HON.out.sX k) (fun e=>by rw [e];exact HBB.out.1)))).trans HK37 (fun k hk=>?_)⟩
    ·rcases hk with hk|hk|hk
     ·exact⟨fun hc=>(HXF.out k hc).2.1 hk,fun hc=>(HXS.out k (.inr hc)).2.1 hk⟩
     ·have h1:=HOW.out k hk
      exact⟨fun hc=>by have:=hXlt k hc;omega,h1.2⟩
     ·exact⟨fun hc=>(HXF.out k hc).2.2 hk,fun hc=>(HXS.out k (.inr hc)).2.2 hk⟩
    ·rcases HH7.out k hk with h1|h1|h1
     ·exact .inl h1
     ·have:=(HOW.out k h1).1;exact .inr (by omega)
     ·have h2:w6.heap.size≤k:=h1
      exact .inr (by omega)
    ·rcases HH7.out k hf with h1|h1|h1
     ·exact(HXS.out k hk).2.1 h1
     ·have h2:=HOW.out k h1
      rcases hk with hk|hk
      ·have:=hXlt k hk;omega
      ·exact h2.2 hk
     ·have h2:w6.heap.size≤k:=h1
      rcases hk with hk|hk
      ·have:=hXlt k hk;omega
      ·have:=HAFT.out.disk.lt k hk;omega
    ·rcases hk with hk|hk|hk
     ·exact .inl (.inr (.inl hk))
     ·have:=(HOW.out k hk).1;exact .inr (by omega)
     ·exact .inl (.inr (.inr hk))
   ·obtain⟨hp1,hm1⟩:=HPG.out.no hc
    cases hp1
    subst hm1
    have e2:(cc !=0)=true:=by simpa using hc
    clear hc
    go_wp2
    go_ret
    exact⟨rfl,⟨_,H,b,cb,vs,cK M w w0.drew w3 w5 X bo t h bd D D2 S S2 R ib V last HON.out bs HBS.out HKA.out (Nat.le_of_lt HS1.out) HAFT.out HBB.out HASK.out (fun _=>False) HK35.out fE,HBK5b.out,by omega,HXf.out,fun k hk=>.inl hk,HXS.out⟩,
     (HK03.out.mono (fun k hk=>.inl (hk.elim (HON.out.sX k) (fun e=>by rw [e];exact HBB.out.1)))).trans HK35.out fE⟩
end law
namespace law
open Go.ChangeShapes Go.WideShapes Go.ChangeAt Go.RowKit disk ref book
open keys (zj zd zy zq zt)
theorem Xe(M:zg)(P:vi M)(E1:vk M)(E2:xk M)(E3:jK M)(w:World)(base bp t:Nat)(ones:List (Nat×(Nat→Prop)))(la:Option Addr)(lc:Nat)(F H:Nat→Prop)(a b:Option Addr)(ca cb:Nat)(es vs:List jo)(p:qu M w base bp t ones la lc F H a b ca cb es vs)(hbase:base≤w.heap.size)(ht:t≤2199023255552)
 (od:yf) (Q:Nat→Prop) (hop:od.Ok w Q) (hQ:∀k,Q k→k<base) (hkind:od.kind=2∨od.kind=3∨od.kind=4∨od.kind=7):
 Calls Tryz.prog 37 #[.pointer (some ⟨bp,0,none⟩),.agg #[.int .i64 od.kind,.int .i64 od.A,.int .i64 od.B,.int .i64 od.C,.string od.S,.string od.P,.slice od.la od.l.length od.lc,.slice od.ka od.ks.length od.kc]] w fun e w'=>e=.returned (.bool true)∧xY M w' base bp (t+1)∧za (fun k=>base≤k) w w':=by
 have k0:za (fun _=>False) w (w.alloc (.cells #[.int .i64 od.kind,.int .i64 od.A,.int .i64 od.B,.int .i64 od.C,.string od.S,.string od.P,.slice od.la od.l.length od.lc,.slice od.ka od.ks.length od.kc] 81)):=za.alloc _ _ _
 have hb0:yS (w.alloc (.cells #[.int .i64 od.kind,.int .i64 od.A,.int .i64 od.B,.int .i64 od.C,.string od.S,.string od.P,.slice od.la od.l.length od.lc,.slice od.ka od.ks.length od.kc] 81)) w.heap.size od:=⟨heap_alloc_new w _⟩
 have hq0':=hb0.c0
 have hq1:=hb0.c1
 have hq2:=hb0.c2
 have hq3:=hb0.c3
 have hq4:=hb0.c4
 have hq5:=hb0.c5
 have hq6:=hb0.c6
 have hq7:=hb0.c7
 have p0:=p.kept0 k0
 have hop0:=hop.kept k0 nF
 have hs0:base≤(w.alloc (.cells #[.int .i64 od.kind,.int .i64 od.A,.int .i64 od.B,.int .i64 od.C,.string od.S,.string od.P,.slice od.la od.l.length od.lc,.slice od.ka od.ks.length od.kc] 81)).heap.size:=Nat.le_trans hbase k0.size
 have hc0:=p0.book.head.c.1
 have HP0:Hid _:=p0
 have HOP0:Hid _:=hop0
 have HB0:Hid _:=hb0
 have HK0:Hid _:=k0
 have HP:Hid _:=p
 have HQ:Hid _:=hQ
 have HS0:Hid _:=hs0
 have hfo:=p.fewO
 have HKI:Hid _:=hkind
 have hAok:=hop.A
 have HA:Hid _:=hAok
 have hfv:=p.fewV
 clear k0 hb0 p0 hop0 p hop hQ hs0 hkind hAok
 generalize hW0:w.alloc (.cells #[.int .i64 od.kind,.int .i64 od.A,.int .i64 od.B,.int .i64 od.C,.string od.S,.string od.P,.slice od.la od.l.length od.lc,.slice od.ka od.ks.length od.kc] 81)=w0 at*
 rcases HKI.out with hkd|hkd|hkd|hkd
 all_goals
  have HKD:Hid _:=hkd
  have hk1:(od.kind==1)=false:=by rw [hkd];rfl
  have hk12:(od.kind==12)=false:=by rw [hkd];rfl
  have hk2:decide (od.kind<2)=false:=by rw [hkd];rfl
  have hk11:decide (11<od.kind)=false:=by rw [hkd];rfl
  have hk8:decide (8≤od.kind)=false:=by rw [hkd];rfl
  first
   |have hke2:(od.kind==2)=true:=by rw [hkd];rfl
   |have hke2:(od.kind==2)=false:=by rw [hkd];rfl
  first
   |have hke3:(od.kind==3)=true:=by rw [hkd];rfl
   |have hke3:(od.kind==3)=false:=by rw [hkd];rfl
  first
   |have hke4:(od.kind==4)=true:=by rw [hkd];rfl
   |have hke4:(od.kind==4)=false:=by rw [hkd];rfl
  clear hkd
  by_cases hz:ones.length=0
  ·have hz':((ones.length:Int)==0)=true:=by simp [hz]
   go_enter Tryz.func37,Tryz.ntmps37
   go_wp2
   go_ret
   exact⟨rfl,HP.out.idle HK0.out⟩
  ·have hz':((ones.length:Int)==0)=false:=by simpa using hz
   obtain⟨g,rfl⟩:=HP0.out.rowAt (by omega)
   go_enter Tryz.func37,Tryz.ntmps37
   go_wp2_with fail
   obtain⟨i,hi0,hpk⟩:=KM od.A ones.length HA.out (by omega) (by omega)
   have hil:i<ones.length:=by omega
   have hri:=HP0.out.rowCell i hil
   have HPK:Hid _:=hpk
   clear hpk
   go_quiet ((go_at_call 58;exact Calls.quiet_of_same (HPK.out _)))
   obtain⟨h,bd,D,S,R,ib,V,last,hone⟩:=HP0.out.one i hil
   have hone':=hone.kept (T:=fun _=>False) (w':=w0.drewN nq) kD nF
   have hx1:=hone.head.c1
   have HON:Hid (xh M (w0.drewN nq) ones[i].2 ones[i].1 t h bd D S R ib V last):=hone'
   have HP1:Hid _:=HP0.out.kept0 (w':=w0.drewN nq) kD
   have HOP1:Hid _:=HOP0.out.kept (T:=fun _=>False) (w':=w0.drewN nq) kD nF
   have hs0l:base≤(w0.drewN nq).heap.size:=HS0.out
   have hQ1:∀k,Q k→¬ones[i].2 k∧k<(w0.drewN nq).heap.size:=fun k hk=>⟨fun hc=>by have:=HQ.out k hk;have:=HP0.out.bX i hil k hc;omega,by have:=HQ.out k hk;omega⟩
   have HQ1:Hid _:=hQ1
   have hkk:za (fun k=>base≤k) w (w0.drewN nq):=(HK0.out.mono fE).trans (S':=fun _=>False) kD fE
   have HKK:Hid _:=hkk
   clear hQ1 hkk hone'
   have hsv:(∃bs,h.s=yw bs)∨h.s=.pointer none:=by
    cases hone.st with
    |live bs hs=>exact .inl ⟨bs,hs⟩
    |shut bs hs=>exact .inl ⟨bs,hs⟩
    |gone hs=>exact .inr hs
   clear hone
   rcases hsv with⟨bs,hs⟩|hs
   ·have HBS:Hid _:=hs
    rw [hs] at hx1
    unfold yw at hx1
    clear hs
    go_wp2_with fail
    first
     |(go_at_call 60;refine(KL M P _ ones[i].2 ones[i].1 t h bd D S R ib V last HON.out ht bs HBS.out od Q HOP1.out HQ1.out).mono ?_;rintro e w2 hst;obtain⟨h1,h2,h3⟩:=HP1.out.stepped hs0l i hil hst)
     |(go_at_call 61;refine(cJ M E1 _ ones[i].2 ones[i].1 t h bd D S R ib V last HON.out ht bs HBS.out od Q HOP1.out HQ1.out).mono ?_;rintro e w2 hst;obtain⟨h1,h2,h3⟩:=HP1.out.stepped hs0l i hil hst)
     |(go_at_call 62;refine(Qp M E2 _ ones[i].2 ones[i].1 t h bd D S R ib V last HON.out ht bs HBS.out od Q HOP1.out HQ1.out).mono ?_;rintro e w2 hst;obtain⟨h1,h2,h3⟩:=HP1.out.stepped hs0l i hil hst)
     |(go_at_call 63;refine(Qx M E3 _ ones[i].2 ones[i].1 t h bd D S R ib V last HON.out ht bs HBS.out od Q HOP1.out HQ1.out HKD.out bp _ F H a b ca cb es vs HP1.out.book hfv (HP1.out.sep i hil)).mono ?_;rintro e w2 hst;obtain⟨h1,h2,h3⟩:=HP1.out.askedV hs0l i hil hst)
    subst h1
    have H2:Hid _:=h2
    have H3:Hid _:=h3
    clear h2 h3 hst
    go_wp2
    go_ret
    exact⟨rfl,H2.out,HKK.out.trans H3.out iL⟩
   ·rw [hs] at hx1
    clear hs
    go_wp2
    go_ret
    exact⟨rfl,HP.out.idle (HK0.out.trans (S':=fun _=>False) kD iL)⟩
theorem bD(M:zg)(O:kw M)(P:vi M)(D:vk M)(E:xk M)(L:jK M)(hnd:∀f,M.Fu f→f≠0):Jl M [1,2,3,4,7]:=by
 intro w base bp t od hp hbase ht hop hk hC
 obtain⟨ones,la,lc,F,H,a,b,ca,cb,es,vs,p⟩:=hp
 simp only [List.mem_cons,List.not_mem_nil,or_false] at hk
 rcases hk with hk|hk|hk|hk|hk
 ·exact Jk M O hnd w base bp t ones la lc F H a b ca cb es vs p hbase ht od _ hop (fun k hk=>hk) hk (hC hk)
 all_goals exact Xe M P D E L w base bp t ones la lc F H a b ca cb es vs p hbase ht od _ hop (fun k hk=>hk) (by omega)
theorem Xf(M:zg)(O:kw M)(P:vi M)(D:vk M)(E:xk M)(L:jK M)(hnd:∀f,M.Fu f→f≠0)(w:World)(Q:Nat→Prop)(hQ:∀k,Q k→k<w.heap.size)(a:Option Addr)(cap:Nat)(ods:List yf)(h:jZ w Q a ods)(hlen:ods.length≤1256584717449):
 Calls Tryz.prog 5 #[.slice a ods.length cap] w fun e w'=>e=.returned (.bool true)∧za (fun _=>False) w w':=by
 have HH:Hid _:=h
 have HQ:Hid _:=hQ
 have HS:Hid _:=bD M O P D E L hnd
 clear h hQ
 go_enter Tryz.func5,Tryz.ntmps5
 go_wp2_with fail
 refine(Xa M _ Q (fun k hk=>by have:=HQ.out k hk;simp;omega) a cap ods (HH.out.kept (za.alloc (fun _=>False) w _) nF) hlen w.heap.size 5 [1,2,3,4,7] ⟨heap_alloc_new w _⟩ (by decide) (by decide) HS.out).mono ?_
 rintro e w2 ⟨rfl,hk⟩
 have HK:Hid _:=hk
 clear hk
 go_wp2
 go_ret
 exact⟨rfl,(za.alloc _ w _).trans HK.out iL⟩
end law
namespace law
open Go.RowKit disk ref book Go.Deep
theorem KQ:Tryz.prog.cellsOf 5=1:=by kernel_rfl
theorem Xg:Tryz.prog.cellsOf 4=1:=by kernel_rfl
theorem vK:Tryz.prog.cellsOf 3=1:=by kernel_rfl
theorem cN:Tryz.prog.cellsOf 9=1:=by kernel_rfl
theorem Jw:Tryz.prog.cellsOf 35=1:=by kernel_rfl
theorem Qy:Tryz.prog.cellsOf 39=1:=by kernel_rfl
theorem Yr:Tryz.prog.cellsOf 81=8:=by kernel_rfl
theorem KR:Tryz.prog.bytesOf 5=1:=by kernel_rfl
theorem Xh:Tryz.prog.bytesOf 4=1:=by kernel_rfl
theorem KS:Tryz.prog.bytesOf 81=112:=by kernel_rfl
theorem cO{w:World}{a:Addr}{v:Value}(h:w.cell? a=some v):a.block<w.heap.size:=by
 unfold World.cell? at h
 cases hb:w.heap[a.block]? with
 |none=>rw [hb] at h;simp at h
 |some o=>exact(lT hb)
section
variable {H:Type} {enc:TypeId×Value→H} {W:World} {fuel:Nat} {cs:List Value} {x:DataW H×List MemPlace}
theorem cP{a:Addr}{m:Nat}{V:Nat→Value}(h:∀i,i<m→W.cell? (a.add i)=some (V i))(hm:0<m):∃b o,a=⟨b,o,none⟩∧b<W.heap.size∧∀i,i<m→W.cell? ⟨b,o+i,none⟩=some (V i):=by
 obtain⟨b,o,sp⟩:=a
 have h0:=h 0 hm
 have hs:sp=none:=by simpa [Addr.add] using World.cell?_spot h0
 subst hs
 refine⟨b,o,rfl,?_,fun i hi=>?_⟩
 ·have:=cO h0;simpa [Addr.add] using this
 ·have:=h i hi;rw [Addr.add_mid] at this;exact this
theorem Jy(h:DataW.trod enc Tryz.prog W 0 (fun _=>true) true fuel 35 cs=some x):∃a l cap,cs=[.slice a l.length cap]∧zX W (fun k=>k<W.heap.size) a l∧(l.length=0∨∃el sp,x.1=.slice el sp∧el.length=l.length):=by
 rcases open_slice1 Tryz.underlying35 KQ h with⟨rfl,rfl⟩|⟨a,len,cap,m,n,V,D,Pl,rfl,_,hl,hm,hmm,rfl,hx⟩
 ·exact⟨none,[],0,rfl,.inl rfl,.inl rfl⟩
 ·have hmc:len≤m:=by rw [hmm];simpa using hl
  obtain⟨z,hz⟩:=choose_lt (α:=Nat) (n:=m) (p:=fun i k=>V i=.int .u8 (k:Int)∧k<256) (fun i hi=>by
   obtain⟨k,h1,_,h3⟩:=DataW.trod_int Tryz.underlying5 (hx i hi).2
   simp only [List.cons.injEq,and_true] at h1
   have h4:0≤k∧k<256:=by
    have h5:IntKind.u8.min≤k∧k≤IntKind.u8.max:=by simpa only [Lit.wf,Bool.and_eq_true,decide_eq_true_eq] using h3
    have h6:IntKind.u8.min=0:=by decide
    have h7:IntKind.u8.max=255:=by decide
    omega
   exact⟨k.toNat,by rw [h1];congr 1;omega,by omega⟩)
  refine⟨some a,(List.range len).map fun i=>UInt8.ofNat (z i),cap,by simp,?_,.inr ⟨_,_,rfl,by simp⟩⟩
  by_cases h0:len=0
  ·subst h0;exact .inl rfl
  ·obtain⟨b,o,rfl,hb,hc⟩:=cP (fun i hi=>(hx i hi).1) (by omega:0<m)
   refine .inr ⟨b,o,rfl,hb,hb,fun j hj=>?_⟩
   have hj':j<len:=by simpa using hj
   rw [hc j (by omega),(hz j (by omega)).1]
   have:=(hz j (by omega)).2
   simp
   omega
theorem Qz(h:DataW.trod enc Tryz.prog W 0 (fun _=>true) true fuel 39 cs=some x):∃a ks cap,cs=[.slice a (ks:List Bool).length cap]∧(∀j,j<ks.length→∃kb ko,a=some ⟨kb,ko,none⟩∧kb<W.heap.size∧kb<W.heap.size∧W.cell? ⟨kb,ko+j,none⟩=some (.bool (ks.getD j false)))∧(ks.length=0∨∃el sp,x.1=.slice el sp∧el.length=ks.length):=by
 rcases open_slice1 Tryz.underlying39 Xg h with⟨rfl,rfl⟩|⟨a,len,cap,m,n,V,D,Pl,rfl,_,hl,hm,hmm,rfl,hx⟩
 ·exact⟨none,[],0,rfl,fun j hj=>by simp at hj,.inl rfl⟩
 ·have hmc:len≤m:=by rw [hmm];simpa using hl
  obtain⟨z,hz⟩:=choose_lt (α:=Bool) (n:=m) (p:=fun i k=>V i=.bool k) (fun i hi=>by
   obtain⟨k,h1,_⟩:=DataW.trod_bool Tryz.underlying4 (hx i hi).2
   simp only [List.cons.injEq,and_true] at h1
   exact⟨k,h1⟩)
  refine⟨some a,(List.range len).map z,cap,by simp,fun j hj=>?_,.inr ⟨_,_,rfl,by simp⟩⟩
  have hj':j<len:=by simpa using hj
  obtain⟨b,o,rfl,hb,hc⟩:=cP (fun i hi=>(hx i hi).1) (by omega:0<m)
  refine⟨b,o,rfl,hb,hb,?_⟩
  rw [hc j (by omega),hz j (by omega)]
  simp [hj']
theorem vL{t:TypeId}(ht:Tryz.prog.underlying t=some (.int .i64))(h:DataW.trod enc Tryz.prog W 0 (fun _=>true) true fuel t cs=some x):∃k,cs=[.int .i64 k]∧zY k:=by
 obtain⟨k,h1,_,h3⟩:=DataW.trod_int ht h
 refine⟨k,h1,?_⟩
 have h5:IntKind.i64.min≤k∧k≤IntKind.i64.max:=by simpa only [Lit.wf,Bool.and_eq_true,decide_eq_true_eq] using h3
 have h6:IntKind.i64.min= -9223372036854775808:=by decide
 have h7:IntKind.i64.max=9223372036854775807:=by decide
 unfold zY
 omega
theorem KT(h:DataW.trod enc Tryz.prog W 0 (fun _=>true) true fuel 81 cs=some x)(hw:(x.1.weights Tryz.prog 81).all (· ≤reachBytes)=true):∃o:yf,cs=o.cells∧o.Ok W (fun k=>k<W.heap.size):=by
 obtain⟨xs,n,rfl,hxx,hlen,hxl,hf⟩:=DataW.trod_struct Tryz.underlying81 h
 rw [Yr] at hlen
 match cs,hlen with
 |[c0,c1,c2,c3,c4,c5,c6,c7],_=>
  match xs,hxl with
  |[x0,x1,x2,x3,x4,x5,x6,x7],_=>
   have f0:DataW.trod enc Tryz.prog W 0 (fun _=>true) true n 3 [c0]=some x0:=by
    have h1:DataW.trod enc Tryz.prog W 0 (fun _=>true) true n 3 (List.take (Tryz.prog.cellsOf 3) (List.drop 0 [c0,c1,c2,c3,c4,c5,c6,c7]))=some x0:=hf 0 _ rfl
    rw [vK] at h1
    exact h1
   have f1:DataW.trod enc Tryz.prog W 0 (fun _=>true) true n 3 [c1]=some x1:=by
    have h1:DataW.trod enc Tryz.prog W 0 (fun _=>true) true n 3 (List.take (Tryz.prog.cellsOf 3) (List.drop 1 [c0,c1,c2,c3,c4,c5,c6,c7]))=some x1:=hf 1 _ rfl
    rw [vK] at h1
    exact h1
   have f2:DataW.trod enc Tryz.prog W 0 (fun _=>true) true n 3 [c2]=some x2:=by
    have h1:DataW.trod enc Tryz.prog W 0 (fun _=>true) true n 3 (List.take (Tryz.prog.cellsOf 3) (List.drop 2 [c0,c1,c2,c3,c4,c5,c6,c7]))=some x2:=hf 2 _ rfl
    rw [vK] at h1
    exact h1
   have f3:DataW.trod enc Tryz.prog W 0 (fun _=>true) true n 3 [c3]=some x3:=by
    have h1:DataW.trod enc Tryz.prog W 0 (fun _=>true) true n 3 (List.take (Tryz.prog.cellsOf 3) (List.drop 3 [c0,c1,c2,c3,c4,c5,c6,c7]))=some x3:=hf 3 _ rfl
    rw [vK] at h1
    exact h1
   have f4:DataW.trod enc Tryz.prog W 0 (fun _=>true) true n 9 [c4]=some x4:=by
    have h1:DataW.trod enc Tryz.prog W 0 (fun _=>true) true n 9 (List.take (Tryz.prog.cellsOf 9) (List.drop 4 [c0,c1,c2,c3,c4,c5,c6,c7]))=some x4:=hf 4 _ rfl
    rw [cN] at h1
    exact h1
   have f5:DataW.trod enc Tryz.prog W 0 (fun _=>true) true n 9 [c5]=some x5:=by
    have h1:DataW.trod enc Tryz.prog W 0 (fun _=>true) true n 9 (List.take (Tryz.prog.cellsOf 9) (List.drop 5 [c0,c1,c2,c3,c4,c5,c6,c7]))=some x5:=hf 5 _ rfl
    rw [cN] at h1
    exact h1
   have f6:DataW.trod enc Tryz.prog W 0 (fun _=>true) true n 35 [c6]=some x6:=by
    have h1:DataW.trod enc Tryz.prog W 0 (fun _=>true) true n 35 (List.take (Tryz.prog.cellsOf 35) (List.drop 6 [c0,c1,c2,c3,c4,c5,c6,c7]))=some x6:=hf 6 _ rfl
    rw [Jw] at h1
    exact h1
   have f7:DataW.trod enc Tryz.prog W 0 (fun _=>true) true n 39 [c7]=some x7:=by
    have h1:DataW.trod enc Tryz.prog W 0 (fun _=>true) true n 39 (List.take (Tryz.prog.cellsOf 39) (List.drop 7 [c0,c1,c2,c3,c4,c5,c6,c7]))=some x7:=hf 7 _ rfl
    rw [Qy] at h1
    exact h1
   clear hf h
   obtain⟨k0,e0,g0⟩:=vL Tryz.underlying3 f0
   obtain⟨k1,e1,g1⟩:=vL Tryz.underlying3 f1
   obtain⟨k2,e2,g2⟩:=vL Tryz.underlying3 f2
   obtain⟨k3,e3,g3⟩:=vL Tryz.underlying3 f3
   obtain⟨s4,e4, -, g4⟩:=DataW.trod_string Tryz.underlying9 f4
   obtain⟨s5,e5, -, g5⟩:=DataW.trod_string Tryz.underlying9 f5
   obtain⟨a6,l6,q6,e6,g6,w6⟩:=Jy f6
   obtain⟨a7,l7,q7,e7,g7,w7⟩:=Qz f7
   simp only [List.cons.injEq,and_true] at e0 e1 e2 e3 e4 e5 e6 e7
   subst e0 e1 e2 e3 e4 e5 e6 e7
   rw [hxx] at hw
   have hw':(DataW.weightsEach Tryz.prog [3, 3, 3, 3, 9, 9, 35, 39] [x0.1,x1.1,x2.1,x3.1,x4.1,x5.1,x6.1,x7.1]).all (· ≤reachBytes)=true:=by
    have e:DataW.weights Tryz.prog 81 (.agg [x0.1,x1.1,x2.1,x3.1,x4.1,x5.1,x6.1,x7.1])=DataW.weightsEach Tryz.prog [3, 3, 3, 3, 9, 9, 35, 39] [x0.1,x1.1,x2.1,x3.1,x4.1,x5.1,x6.1,x7.1]:=by
     unfold DataW.weights
     rw [Tryz.underlying81]
     rfl
    rw [←e]
    exact hw
   have hlt:=reachBytes_lt
   have hr6:l6.length≤140737488355326:=by
    rcases w6 with h|⟨el,sp,h,hl⟩
    ·omega
    ·have:=sized_slice hw' (j:=6) (t:= 35) rfl (by rw [←h];rfl) Tryz.underlying35
     rw [KR] at this
     have h47:reachBytes=140737488351232:=by decide
     omega
   have hr7:l7.length≤140737488355326:=by
    rcases w7 with h|⟨el,sp,h,hl⟩
    ·omega
    ·have:=sized_slice hw' (j:=7) (t:= 39) rfl (by rw [←h];rfl) Tryz.underlying39
     rw [Xh] at this
     have h47:reachBytes=140737488351232:=by decide
     omega
   exact⟨⟨k0,k1,k2,k3,s4,s5,a6,l6,q6,a7,l7,q7⟩,rfl,g0,g1,g2,g3,g4,g5,g6,hr6,hr7,g7⟩
theorem gd{H:Type}{P:Program}{e:TypeId}{n:Nat}:∀(l:List (DataW H)),∀d∈l,n∈d.weights P e→n∈DataW.weightsAll P e l
 |d0::l,d,hd,hn=>by
  unfold DataW.weightsAll
  rcases List.mem_cons.1 hd with rfl|hd
  ·exact List.mem_append_left _ hn
  ·exact List.mem_append_right _ (gd l d hd hn)
theorem cQ{a0:Option Addr}{len cap:Nat}(h:DataW.trod enc Tryz.prog W 0 (fun _=>true) true fuel 22 [.slice a0 len cap]=some x)(hw:(x.1.weights Tryz.prog 22).all (· ≤reachBytes)=true):∃ods:List yf,ods.length=len∧jZ W (fun k=>k<W.heap.size) a0 ods∧ods.length≤1256584717449:=by
 rcases open_slice Tryz.underlying22 h with⟨hc,rfl⟩|⟨a,len',cap',m,n,D,Pl,hc,_,hl,hm,hmm,rfl,hx⟩
 ·simp only [List.cons.injEq,Value.slice.injEq,and_true] at hc
  obtain⟨rfl,rfl,rfl⟩:=hc
  exact⟨[],rfl,⟨fun i hi=>by simp at hi,fun i hi=>by simp at hi⟩,by simp⟩
 ·simp only [List.cons.injEq,Value.slice.injEq,and_true] at hc
  obtain⟨rfl,rfl,rfl⟩:=hc
  have hmc:len≤m:=by rw [hmm];simpa using hl
  have hsl:(((List.range len).map D).length+((List.range (m-len)).map fun j=>D (len+j)).length)*Tryz.prog.bytesOf 81≤reachBytes∧∀d∈(List.range len).map D,(d.weights Tryz.prog 81).all (· ≤reachBytes)=true:=by
   unfold DataW.weights at hw
   rw [Tryz.underlying22] at hw
   simp only [List.all_cons,List.all_append,Bool.and_eq_true,decide_eq_true_eq] at hw
   refine⟨hw.1,fun d hd=>List.all_eq_true.2 (fun k hk=>?_)⟩
   exact List.all_eq_true.1 hw.2.1 k (gd _ d hd hk)
  obtain⟨hb,hwe⟩:=hsl
  rw [KS,List.length_map,List.length_map,List.length_range,List.length_range] at hb
  have h47:reachBytes=140737488351232:=by decide
  obtain⟨g,hg⟩:=choose_lt (α:=Option yf) (n:=len) (p:=fun i o=>∃od:yf,o=some od∧W.cells? 0 (a.add (i*8)) 8=some od.cells∧od.Ok W (fun k=>k<W.heap.size)) (fun i hi=>by
   obtain⟨cs',h1,h2⟩:=hx i (by omega)
   rw [Yr] at h1
   obtain⟨od,rfl,hok⟩:=KT h2 (hwe _ (List.mem_map.2 ⟨i,List.mem_range.2 hi,rfl⟩))
   exact⟨some od,od,rfl,h1,hok⟩)
  let dflt:yf:=⟨0,0,0,0,ByteArray.empty,ByteArray.empty,none,[],0,none,[],0⟩
  refine⟨(List.range len).map fun i=>(g i).getD dflt,by simp,⟨fun i hi=>?_,fun i hi=>?_⟩,by simp;omega⟩
  ·have hi':i<len:=by simpa using hi
   obtain⟨od,e1,e2,e3⟩:=hg i hi'
   have hc0:=(World.cells?_some e2).2.2
   obtain⟨b,o,sp⟩:=a
   have hs0:W.cell? (((⟨b,o,sp⟩:Addr).add (i*8)).add 0)=od.cells[0]? :=hc0 0 (by omega)
   have hsp:sp=none:=by
    obtain⟨od0,_,e20,_⟩:=hg 0 (by omega)
    have h1:W.cell? (((⟨b,o,sp⟩:Addr).add (0*8)).add 0)=some (.int .i64 od0.kind):=(World.cells?_some e20).2.2 0 (by omega)
    have h2:=World.cell?_spot h1
    simpa [Addr.add] using h2
   subst hsp
   have hbl:b<W.heap.size:=by
    have h1:W.cell? (((⟨b,o,none⟩:Addr).add (i*8)).add 0)=some (.int .i64 od.kind):=hs0
    rw [add_add,Addr.add_mid] at h1
    exact cO h1
   refine⟨b,o,rfl,hbl,hbl,fun j v hv=>?_⟩
   have hv':od.cells[j]? =some v:=by
    rw [List.getElem_map,List.getElem_range,e1] at hv
    exact hv
   have hj:j<8:=by have:=(List.getElem?_eq_some_iff.1 hv').1;simpa [yf.cells] using this
   have h1:=hc0 j hj
   rw [add_add,Addr.add_mid,hv'] at h1
   rw [Nat.add_assoc]
   exact h1
  ·have hi':i<len:=by simpa using hi
   obtain⟨od,e1,e2,e3⟩:=hg i hi'
   rw [List.getElem_map,List.getElem_range,e1]
   exact e3
end
end law
end Go.Proofs.YtcoengihaobddaaGreatDoor

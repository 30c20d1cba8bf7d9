/- Part 9 of 28 of a proof: Law10, Law11, Law12, Law13, Law16 -/
import Derived.Test.YtcoengihaobddaaGreatDoorJe08
import Derived.Test.YtcoengihaobddaaGreatDoorJe07
namespace Go.Proofs.YtcoengihaobddaaGreatDoor.law
open Go.ChangeShapes Go.WideShapes Go.ChangeAt Go.RowKit disk ref book
open keys (ret_int ret_bool beq_no beq_yes keyB)
set_option linter.unusedVariables false
set_option maxRecDepth 8000
theorem PlaysIn.kept0 {M:Meaning} {w w':World} {base bp t:Nat} {ones:List (Nat×(Nat→Prop))} {la:Option Addr} {lc:Nat} {F H:Nat→Prop} {a b:Option Addr} {ca cb:Nat} {es vs:List Ent} (p:PlaysIn M w base bp t ones la lc F H a b ca cb es vs) (k:Kept (fun _=>False) w w'):PlaysIn M w' base bp t ones la lc F H a b ca cb es vs:=
 ⟨k.owns p.row (fun _ _ hf=>hf),p.book.kept k (fun _ _ hf=>hf) (fun _ _ hf=>hf) (fun hf=>hf),fun i hi=>(p.one i hi).kept k (fun _ _ hf=>hf),p.apart,p.sep,p.rsep,p.rowF,p.bX,p.bF,p.bH,p.bP,p.fewE,p.fewV,p.fewO⟩
theorem PlaysIn.rowCell {M:Meaning} {w:World} {base bp t:Nat} {ones:List (Nat×(Nat→Prop))} {g lc:Nat} {F H:Nat→Prop} {a b:Option Addr} {ca cb:Nat} {es vs:List Ent} (p:PlaysIn M w base bp t ones (some ⟨g,0,none⟩) lc F H a b ca cb es vs) (i:Nat) (hi:i<ones.length):w.cell? ⟨g,i,none⟩=some (.pointer (some ⟨ones[i].1,0,none⟩)):=by
 have:=p.row.cells (g:=g) rfl i (ptr ones[i].1) (by simp [hi])
 rw [Addr.add_mid] at this
 simpa [ptr] using this
theorem PlaysIn.rowAt {M:Meaning} {w:World} {base bp t:Nat} {ones:List (Nat×(Nat→Prop))} {la:Option Addr} {lc:Nat} {F H:Nat→Prop} {a b:Option Addr} {ca cb:Nat} {es vs:List Ent} (p:PlaysIn M w base bp t ones la lc F H a b ca cb es vs) (hn:0<ones.length):∃g,la=some ⟨g,0,none⟩:=by
 rcases p.row.2 with ⟨h0,h1⟩|⟨g,cap',cur,hv,_⟩
 ·omega
 ·cases hv;exact ⟨g,rfl⟩
set_option maxHeartbeats 1000000 in
theorem step_new (M:Meaning) (A:ApiOpen M) (hnd:∀f,M.Fu f→f≠0) (w:World) (base bp t:Nat) (ones:List (Nat×(Nat→Prop))) (la:Option Addr) (lc:Nat) (F H:Nat→Prop) (a b:Option Addr) (ca cb:Nat) (es vs:List Ent) (p:PlaysIn M w base bp t ones la lc F H a b ca cb es vs) (hbase:base≤w.heap.size) (ht:t≤2199023255552)
 (od:OpD) (Q:Nat→Prop) (hop:od.Ok w Q) (hQ:∀k,Q k→k<base) (hkind:od.kind=1) (hC:od.C≤0):
 Calls Tryz.prog 37 #[.pointer (some ⟨bp,0,none⟩),.agg #[.int .i64 od.kind,.int .i64 od.A,.int .i64 od.B,.int .i64 od.C,.string od.S,.string od.P,.slice od.la od.l.length od.lc,.slice od.ka od.ks.length od.kc]] w fun e w'=>e=.returned (.bool true)∧Plays M w' base bp (t+1)∧Kept (fun k=>base≤k) w w':=by
 have k0:Kept (fun _=>False) w (w.alloc (.cells #[.int .i64 od.kind,.int .i64 od.A,.int .i64 od.B,.int .i64 od.C,.string od.S,.string od.P,.slice od.la od.l.length od.lc,.slice od.ka od.ks.length od.kc] 81)):=Kept.alloc _ _ _
 have hb0:Boxd (w.alloc (.cells #[.int .i64 od.kind,.int .i64 od.A,.int .i64 od.B,.int .i64 od.C,.string od.S,.string od.P,.slice od.la od.l.length od.lc,.slice od.ka od.ks.length od.kc] 81)) w.heap.size od:=⟨heap_alloc_new w _⟩
 have hq0:=hb0.c0.trans (congrArg (fun k=>some (Value.int .i64 k)) hkind)
 have hq0':=hb0.c0
 have hq1:=hb0.c1
 have hq2:=hb0.c2
 have hq3:=hb0.c3
 have hq4:=hb0.c4
 have hq5:=hb0.c5
 have hq6:=hb0.c6
 have hq7:=hb0.c7
 have p0:=p.kept0 k0
 have hop0:=hop.kept k0 (fun _ _ hf=>hf)
 have hs0:base≤(w.alloc (.cells #[.int .i64 od.kind,.int .i64 od.A,.int .i64 od.B,.int .i64 od.C,.string od.S,.string od.P,.slice od.la od.l.length od.lc,.slice od.ka od.ks.length od.kc] 81)).heap.size:=Nat.le_trans hbase k0.size
 have hc0:=p0.book.head.c.1
 have HP0:Hid _:=p0
 have HOP0:Hid _:=hop0
 have HB0:Hid _:=hb0
 have HK0:Hid _:=k0
 have HP:Hid _:=p
 have HQ:Hid _:=hQ
 have HS0:Hid _:=hs0
 have hfo:=p.fewO
 have HKI:Hid _:=hkind
 have hAok:=hop.A
 have HA:Hid _:=hAok
 have hfe:=p.fewE
 clear k0 hb0 p0 hop0 p hop hQ hs0 hkind hAok
 generalize hW0:w.alloc (.cells #[.int .i64 od.kind,.int .i64 od.A,.int .i64 od.B,.int .i64 od.C,.string od.S,.string od.P,.slice od.la od.l.length od.lc,.slice od.ka od.ks.length od.kc] 81)=w0 at*
 clear hq0
 have hk1:(od.kind==1)=true:=by rw [HKI.out];rfl
 go_enter Tryz.func37,Tryz.ntmps37
 go_wp2_with fail
 refine (opened_live M A hnd _ base bp t ones la lc F H a b ca cb es vs HP0.out HS0.out ht od Q HOP0.out hC).mono ?_
 rintro e w2 ⟨rfl,h2,h3⟩
 have H2:Hid _:=h2
 have H3:Hid _:=h3
 clear h2 h3
 go_wp2
 go_ret
 exact ⟨rfl,H2.out,(HK0.out.mono (fun _ hf=>hf.elim)).trans H3.out (fun _ h=>.inl h)⟩
set_option maxHeartbeats 2000000 in
theorem step_put (M:Meaning) (A:ApiPut M) (w:World) (base bp t:Nat) (ones:List (Nat×(Nat→Prop))) (la:Option Addr) (lc:Nat) (F H:Nat→Prop) (a b:Option Addr) (ca cb:Nat) (es vs:List Ent) (p:PlaysIn M w base bp t ones la lc F H a b ca cb es vs) (hbase:base≤w.heap.size) (ht:t≤2199023255552)
 (od:OpD) (Q:Nat→Prop) (hop:od.Ok w Q) (hQ:∀k,Q k→k<base) (hkind:od.kind=2):
 Calls Tryz.prog 37 #[.pointer (some ⟨bp,0,none⟩),.agg #[.int .i64 od.kind,.int .i64 od.A,.int .i64 od.B,.int .i64 od.C,.string od.S,.string od.P,.slice od.la od.l.length od.lc,.slice od.ka od.ks.length od.kc]] w fun e w'=>e=.returned (.bool true)∧Plays M w' base bp (t+1)∧Kept (fun k=>base≤k) w w':=by
 have k0:Kept (fun _=>False) w (w.alloc (.cells #[.int .i64 od.kind,.int .i64 od.A,.int .i64 od.B,.int .i64 od.C,.string od.S,.string od.P,.slice od.la od.l.length od.lc,.slice od.ka od.ks.length od.kc] 81)):=Kept.alloc _ _ _
 have hb0:Boxd (w.alloc (.cells #[.int .i64 od.kind,.int .i64 od.A,.int .i64 od.B,.int .i64 od.C,.string od.S,.string od.P,.slice od.la od.l.length od.lc,.slice od.ka od.ks.length od.kc] 81)) w.heap.size od:=⟨heap_alloc_new w _⟩
 have hq0:=hb0.c0.trans (congrArg (fun k=>some (Value.int .i64 k)) hkind)
 have hq0':=hb0.c0
 have hq1:=hb0.c1
 have hq2:=hb0.c2
 have hq3:=hb0.c3
 have hq4:=hb0.c4
 have hq5:=hb0.c5
 have hq6:=hb0.c6
 have hq7:=hb0.c7
 have p0:=p.kept0 k0
 have hop0:=hop.kept k0 (fun _ _ hf=>hf)
 have hs0:base≤(w.alloc (.cells #[.int .i64 od.kind,.int .i64 od.A,.int .i64 od.B,.int .i64 od.C,.string od.S,.string od.P,.slice od.la od.l.length od.lc,.slice od.ka od.ks.length od.kc] 81)).heap.size:=Nat.le_trans hbase k0.size
 have hc0:=p0.book.head.c.1
 have HP0:Hid _:=p0
 have HOP0:Hid _:=hop0
 have HB0:Hid _:=hb0
 have HK0:Hid _:=k0
 have HP:Hid _:=p
 have HQ:Hid _:=hQ
 have HS0:Hid _:=hs0
 have hfo:=p.fewO
 have HKI:Hid _:=hkind
 have hAok:=hop.A
 have HA:Hid _:=hAok
 have hfe:=p.fewE
 clear k0 hb0 p0 hop0 p hop hQ hs0 hkind hAok
 generalize hW0:w.alloc (.cells #[.int .i64 od.kind,.int .i64 od.A,.int .i64 od.B,.int .i64 od.C,.string od.S,.string od.P,.slice od.la od.l.length od.lc,.slice od.ka od.ks.length od.kc] 81)=w0 at*
 clear hq0
 have hk1:(od.kind==1)=false:=by rw [HKI.out];rfl
 have hk12:(od.kind==12)=false:=by rw [HKI.out];rfl
 have hk2:decide (od.kind<2)=false:=by rw [HKI.out];rfl
 have hk11:decide (11<od.kind)=false:=by rw [HKI.out];rfl
 have hk8:decide (8≤od.kind)=false:=by rw [HKI.out];rfl
 have hke2:(od.kind==2)=true:=by rw [HKI.out];rfl
 have hke3:(od.kind==3)=false:=by rw [HKI.out];rfl
 have hke4:(od.kind==4)=false:=by rw [HKI.out];rfl
 by_cases hz:ones.length=0
 ·have hz':((ones.length:Int)==0)=true:=by simp [hz]
  go_enter Tryz.func37,Tryz.ntmps37
  go_wp2
  go_ret
  exact ⟨rfl,HP.out.idle HK0.out⟩
 ·have hz':((ones.length:Int)==0)=false:=by simpa using hz
  obtain ⟨g,rfl⟩:=HP0.out.rowAt (by omega)
  go_enter Tryz.func37,Tryz.ntmps37
  go_wp2_with fail
  obtain ⟨i,hi0,hpk⟩:=pick_is od.A ones.length HA.out (by omega) (by omega)
  have hil:i<ones.length:=by omega
  have hri:=HP0.out.rowCell i hil
  have HPK:Hid _:=hpk
  clear hpk
  go_quiet ((go_at_call 58;exact Calls.quiet_of_same (HPK.out _)))
  obtain ⟨h,bd,D,S,R,ib,V,last,hone⟩:=HP0.out.one i hil
  have hone':=hone.kept (T:=fun _=>False) (w':=w0.drewN nq) ⟨rfl,rfl,rfl,Nat.le_refl _,fun _ _ _=>rfl⟩ (fun _ _ hf=>hf)
  have hx1:=hone.head.c1
  have HON:Hid (OneIn M (w0.drewN nq) ones[i].2 ones[i].1 t h bd D S R ib V last):=hone'
  have HP1:Hid _:=HP0.out.kept0 (w':=w0.drewN nq) ⟨rfl,rfl,rfl,Nat.le_refl _,fun _ _ _=>rfl⟩
  have HOP1:Hid _:=HOP0.out.kept (T:=fun _=>False) (w':=w0.drewN nq) ⟨rfl,rfl,rfl,Nat.le_refl _,fun _ _ _=>rfl⟩ (fun _ _ hf=>hf)
  have hs0l:base≤(w0.drewN nq).heap.size:=HS0.out
  have hQ1:∀k,Q k→¬ones[i].2 k∧k<(w0.drewN nq).heap.size:=fun k hk=>⟨fun hc=>by have:=HQ.out k hk;have:=HP0.out.bX i hil k hc;omega,by have:=HQ.out k hk;omega⟩
  have HQ1:Hid _:=hQ1
  have hkk:Kept (fun k=>base≤k) w (w0.drewN nq):=(HK0.out.mono (fun _ hf=>hf.elim)).trans (S':=fun _=>False) ⟨rfl,rfl,rfl,Nat.le_refl _,fun _ _ _=>rfl⟩ (fun _ hf=>hf.elim)
  have HKK:Hid _:=hkk
  clear hQ1 hkk hone'
  have hsv:(∃bs,h.s=ptr bs)∨h.s=.pointer none:=by
   cases hone.st with
   |live bs hs=>exact .inl ⟨bs,hs⟩
   |shut bs hs=>exact .inl ⟨bs,hs⟩
   |gone hs=>exact .inr hs
  clear hone
  rcases hsv with ⟨bs,hs⟩|hs
  ·have HBS:Hid _:=hs
   rw [hs] at hx1
   unfold ptr at hx1
   clear hs
   go_wp2_with fail
   refine (put_any M A _ ones[i].2 ones[i].1 t h bd D S R ib V last HON.out ht bs HBS.out od Q HOP1.out HQ1.out).mono ?_
   rintro e w2 hst
   obtain ⟨h1,h2,h3⟩:=HP1.out.stepped hs0l i hil hst
   subst h1
   have H2:Hid _:=h2
   have H3:Hid _:=h3
   clear h2 h3 hst
   go_wp2
   go_ret
   exact ⟨rfl,H2.out,HKK.out.trans H3.out (fun _ h=>.inl h)⟩
  ·rw [hs] at hx1
   clear hs
   go_wp2
   go_ret
   exact ⟨rfl,HP.out.idle (HK0.out.trans (S':=fun _=>False) ⟨rfl,rfl,rfl,Nat.le_refl _,fun _ _ _=>rfl⟩ (fun _ h=>.inl h))⟩
set_option maxHeartbeats 2000000 in
theorem step_get (M:Meaning) (A:ApiGet M) (w:World) (base bp t:Nat) (ones:List (Nat×(Nat→Prop))) (la:Option Addr) (lc:Nat) (F H:Nat→Prop) (a b:Option Addr) (ca cb:Nat) (es vs:List Ent) (p:PlaysIn M w base bp t ones la lc F H a b ca cb es vs) (hbase:base≤w.heap.size) (ht:t≤2199023255552)
 (od:OpD) (Q:Nat→Prop) (hop:od.Ok w Q) (hQ:∀k,Q k→k<base) (hkind:od.kind=5):
 Calls Tryz.prog 37 #[.pointer (some ⟨bp,0,none⟩),.agg #[.int .i64 od.kind,.int .i64 od.A,.int .i64 od.B,.int .i64 od.C,.string od.S,.string od.P,.slice od.la od.l.length od.lc,.slice od.ka od.ks.length od.kc]] w fun e w'=>e=.returned (.bool true)∧Plays M w' base bp (t+1)∧Kept (fun k=>base≤k) w w':=by
 have k0:Kept (fun _=>False) w (w.alloc (.cells #[.int .i64 od.kind,.int .i64 od.A,.int .i64 od.B,.int .i64 od.C,.string od.S,.string od.P,.slice od.la od.l.length od.lc,.slice od.ka od.ks.length od.kc] 81)):=Kept.alloc _ _ _
 have hb0:Boxd (w.alloc (.cells #[.int .i64 od.kind,.int .i64 od.A,.int .i64 od.B,.int .i64 od.C,.string od.S,.string od.P,.slice od.la od.l.length od.lc,.slice od.ka od.ks.length od.kc] 81)) w.heap.size od:=⟨heap_alloc_new w _⟩
 have hq0:=hb0.c0.trans (congrArg (fun k=>some (Value.int .i64 k)) hkind)
 have hq0':=hb0.c0
 have hq1:=hb0.c1
 have hq2:=hb0.c2
 have hq3:=hb0.c3
 have hq4:=hb0.c4
 have hq5:=hb0.c5
 have hq6:=hb0.c6
 have hq7:=hb0.c7
 have p0:=p.kept0 k0
 have hop0:=hop.kept k0 (fun _ _ hf=>hf)
 have hs0:base≤(w.alloc (.cells #[.int .i64 od.kind,.int .i64 od.A,.int .i64 od.B,.int .i64 od.C,.string od.S,.string od.P,.slice od.la od.l.length od.lc,.slice od.ka od.ks.length od.kc] 81)).heap.size:=Nat.le_trans hbase k0.size
 have hc0:=p0.book.head.c.1
 have HP0:Hid _:=p0
 have HOP0:Hid _:=hop0
 have HB0:Hid _:=hb0
 have HK0:Hid _:=k0
 have HP:Hid _:=p
 have HQ:Hid _:=hQ
 have HS0:Hid _:=hs0
 have hfo:=p.fewO
 have HKI:Hid _:=hkind
 have hAok:=hop.A
 have HA:Hid _:=hAok
 have hfe:=p.fewE
 clear k0 hb0 p0 hop0 p hop hQ hs0 hkind hAok
 generalize hW0:w.alloc (.cells #[.int .i64 od.kind,.int .i64 od.A,.int .i64 od.B,.int .i64 od.C,.string od.S,.string od.P,.slice od.la od.l.length od.lc,.slice od.ka od.ks.length od.kc] 81)=w0 at*
 clear hq0
 have hk1:(od.kind==1)=false:=by rw [HKI.out];rfl
 have hk12:(od.kind==12)=false:=by rw [HKI.out];rfl
 have hk2:decide (od.kind<2)=false:=by rw [HKI.out];rfl
 have hk11:decide (11<od.kind)=false:=by rw [HKI.out];rfl
 have hk8:decide (8≤od.kind)=false:=by rw [HKI.out];rfl
 have hke2:(od.kind==2)=false:=by rw [HKI.out];rfl
 have hke3:(od.kind==3)=false:=by rw [HKI.out];rfl
 have hke4:(od.kind==4)=false:=by rw [HKI.out];rfl
 by_cases hz:ones.length=0
 ·have hz':((ones.length:Int)==0)=true:=by simp [hz]
  go_enter Tryz.func37,Tryz.ntmps37
  go_wp2
  go_ret
  exact ⟨rfl,HP.out.idle HK0.out⟩
 ·have hz':((ones.length:Int)==0)=false:=by simpa using hz
  obtain ⟨g,rfl⟩:=HP0.out.rowAt (by omega)
  go_enter Tryz.func37,Tryz.ntmps37
  go_wp2_with fail
  obtain ⟨i,hi0,hpk⟩:=pick_is od.A ones.length HA.out (by omega) (by omega)
  have hil:i<ones.length:=by omega
  have hri:=HP0.out.rowCell i hil
  have HPK:Hid _:=hpk
  clear hpk
  go_quiet ((go_at_call 58;exact Calls.quiet_of_same (HPK.out _)))
  obtain ⟨h,bd,D,S,R,ib,V,last,hone⟩:=HP0.out.one i hil
  have hone':=hone.kept (T:=fun _=>False) (w':=w0.drewN nq) ⟨rfl,rfl,rfl,Nat.le_refl _,fun _ _ _=>rfl⟩ (fun _ _ hf=>hf)
  have hx1:=hone.head.c1
  have HON:Hid (OneIn M (w0.drewN nq) ones[i].2 ones[i].1 t h bd D S R ib V last):=hone'
  have HP1:Hid _:=HP0.out.kept0 (w':=w0.drewN nq) ⟨rfl,rfl,rfl,Nat.le_refl _,fun _ _ _=>rfl⟩
  have HOP1:Hid _:=HOP0.out.kept (T:=fun _=>False) (w':=w0.drewN nq) ⟨rfl,rfl,rfl,Nat.le_refl _,fun _ _ _=>rfl⟩ (fun _ _ hf=>hf)
  have hs0l:base≤(w0.drewN nq).heap.size:=HS0.out
  have hQ1:∀k,Q k→¬ones[i].2 k∧k<(w0.drewN nq).heap.size:=fun k hk=>⟨fun hc=>by have:=HQ.out k hk;have:=HP0.out.bX i hil k hc;omega,by have:=HQ.out k hk;omega⟩
  have HQ1:Hid _:=hQ1
  have hkk:Kept (fun k=>base≤k) w (w0.drewN nq):=(HK0.out.mono (fun _ hf=>hf.elim)).trans (S':=fun _=>False) ⟨rfl,rfl,rfl,Nat.le_refl _,fun _ _ _=>rfl⟩ (fun _ hf=>hf.elim)
  have HKK:Hid _:=hkk
  clear hQ1 hkk hone'
  have hsv:(∃bs,h.s=ptr bs)∨h.s=.pointer none:=by
   cases hone.st with
   |live bs hs=>exact .inl ⟨bs,hs⟩
   |shut bs hs=>exact .inl ⟨bs,hs⟩
   |gone hs=>exact .inr hs
  clear hone
  rcases hsv with ⟨bs,hs⟩|hs
  ·have HBS:Hid _:=hs
   rw [hs] at hx1
   unfold ptr at hx1
   clear hs
   go_wp2_with fail
   refine (asked_get M A _ ones[i].2 ones[i].1 t h bd D S R ib V last HON.out ht bs HBS.out od Q HOP1.out HQ1.out HKI.out bp _ F H a b ca cb es vs HP1.out.book hfe (HP1.out.sep i hil)).mono ?_
   rintro e w2 hst
   obtain ⟨h1,h2,h3⟩:=HP1.out.asked hs0l i hil hst
   subst h1
   have H2:Hid _:=h2
   have H3:Hid _:=h3
   clear h2 h3 hst
   go_wp2
   go_ret
   exact ⟨rfl,H2.out,HKK.out.trans H3.out (fun _ h=>.inl h)⟩
  ·rw [hs] at hx1
   clear hs
   go_wp2
   go_ret
   exact ⟨rfl,HP.out.idle (HK0.out.trans (S':=fun _=>False) ⟨rfl,rfl,rfl,Nat.le_refl _,fun _ _ _=>rfl⟩ (fun _ h=>.inl h))⟩
set_option maxHeartbeats 2000000 in
theorem step_at (M:Meaning) (A:ApiAt M) (w:World) (base bp t:Nat) (ones:List (Nat×(Nat→Prop))) (la:Option Addr) (lc:Nat) (F H:Nat→Prop) (a b:Option Addr) (ca cb:Nat) (es vs:List Ent) (p:PlaysIn M w base bp t ones la lc F H a b ca cb es vs) (hbase:base≤w.heap.size) (ht:t≤2199023255552)
 (od:OpD) (Q:Nat→Prop) (hop:od.Ok w Q) (hQ:∀k,Q k→k<base) (hkind:od.kind=6):
 Calls Tryz.prog 37 #[.pointer (some ⟨bp,0,none⟩),.agg #[.int .i64 od.kind,.int .i64 od.A,.int .i64 od.B,.int .i64 od.C,.string od.S,.string od.P,.slice od.la od.l.length od.lc,.slice od.ka od.ks.length od.kc]] w fun e w'=>e=.returned (.bool true)∧Plays M w' base bp (t+1)∧Kept (fun k=>base≤k) w w':=by
 have k0:Kept (fun _=>False) w (w.alloc (.cells #[.int .i64 od.kind,.int .i64 od.A,.int .i64 od.B,.int .i64 od.C,.string od.S,.string od.P,.slice od.la od.l.length od.lc,.slice od.ka od.ks.length od.kc] 81)):=Kept.alloc _ _ _
 have hb0:Boxd (w.alloc (.cells #[.int .i64 od.kind,.int .i64 od.A,.int .i64 od.B,.int .i64 od.C,.string od.S,.string od.P,.slice od.la od.l.length od.lc,.slice od.ka od.ks.length od.kc] 81)) w.heap.size od:=⟨heap_alloc_new w _⟩
 have hq0:=hb0.c0.trans (congrArg (fun k=>some (Value.int .i64 k)) hkind)
 have hq0':=hb0.c0
 have hq1:=hb0.c1
 have hq2:=hb0.c2
 have hq3:=hb0.c3
 have hq4:=hb0.c4
 have hq5:=hb0.c5
 have hq6:=hb0.c6
 have hq7:=hb0.c7
 have p0:=p.kept0 k0
 have hop0:=hop.kept k0 (fun _ _ hf=>hf)
 have hs0:base≤(w.alloc (.cells #[.int .i64 od.kind,.int .i64 od.A,.int .i64 od.B,.int .i64 od.C,.string od.S,.string od.P,.slice od.la od.l.length od.lc,.slice od.ka od.ks.length od.kc] 81)).heap.size:=Nat.le_trans hbase k0.size
 have hc0:=p0.book.head.c.1
 have HP0:Hid _:=p0
 have HOP0:Hid _:=hop0
 have HB0:Hid _:=hb0
 have HK0:Hid _:=k0
 have HP:Hid _:=p
 have HQ:Hid _:=hQ
 have HS0:Hid _:=hs0
 have hfo:=p.fewO
 have HKI:Hid _:=hkind
 have hAok:=hop.A
 have HA:Hid _:=hAok
 have hfe:=p.fewE
 clear k0 hb0 p0 hop0 p hop hQ hs0 hkind hAok
 generalize hW0:w.alloc (.cells #[.int .i64 od.kind,.int .i64 od.A,.int .i64 od.B,.int .i64 od.C,.string od.S,.string od.P,.slice od.la od.l.length od.lc,.slice od.ka od.ks.length od.kc] 81)=w0 at*
 clear hq0
 have hk1:(od.kind==1)=false:=by rw [HKI.out];rfl
 have hk12:(od.kind==12)=false:=by rw [HKI.out];rfl
 have hk2:decide (od.kind<2)=false:=by rw [HKI.out];rfl
 have hk11:decide (11<od.kind)=false:=by rw [HKI.out];rfl
 have hk8:decide (8≤od.kind)=false:=by rw [HKI.out];rfl
 have hke2:(od.kind==2)=false:=by rw [HKI.out];rfl
 have hke3:(od.kind==3)=false:=by rw [HKI.out];rfl
 have hke4:(od.kind==4)=false:=by rw [HKI.out];rfl
 by_cases hz:ones.length=0
 ·have hz':((ones.length:Int)==0)=true:=by simp [hz]
  go_enter Tryz.func37,Tryz.ntmps37
  go_wp2
  go_ret
  exact ⟨rfl,HP.out.idle HK0.out⟩
 ·have hz':((ones.length:Int)==0)=false:=by simpa using hz
  obtain ⟨g,rfl⟩:=HP0.out.rowAt (by omega)
  go_enter Tryz.func37,Tryz.ntmps37
  go_wp2_with fail
  obtain ⟨i,hi0,hpk⟩:=pick_is od.A ones.length HA.out (by omega) (by omega)
  have hil:i<ones.length:=by omega
  have hri:=HP0.out.rowCell i hil
  have HPK:Hid _:=hpk
  clear hpk
  go_quiet ((go_at_call 58;exact Calls.quiet_of_same (HPK.out _)))
  obtain ⟨h,bd,D,S,R,ib,V,last,hone⟩:=HP0.out.one i hil
  have hone':=hone.kept (T:=fun _=>False) (w':=w0.drewN nq) ⟨rfl,rfl,rfl,Nat.le_refl _,fun _ _ _=>rfl⟩ (fun _ _ hf=>hf)
  have hx1:=hone.head.c1
  have HON:Hid (OneIn M (w0.drewN nq) ones[i].2 ones[i].1 t h bd D S R ib V last):=hone'
  have HP1:Hid _:=HP0.out.kept0 (w':=w0.drewN nq) ⟨rfl,rfl,rfl,Nat.le_refl _,fun _ _ _=>rfl⟩
  have HOP1:Hid _:=HOP0.out.kept (T:=fun _=>False) (w':=w0.drewN nq) ⟨rfl,rfl,rfl,Nat.le_refl _,fun _ _ _=>rfl⟩ (fun _ _ hf=>hf)
  have hs0l:base≤(w0.drewN nq).heap.size:=HS0.out
  have hQ1:∀k,Q k→¬ones[i].2 k∧k<(w0.drewN nq).heap.size:=fun k hk=>⟨fun hc=>by have:=HQ.out k hk;have:=HP0.out.bX i hil k hc;omega,by have:=HQ.out k hk;omega⟩
  have HQ1:Hid _:=hQ1
  have hkk:Kept (fun k=>base≤k) w (w0.drewN nq):=(HK0.out.mono (fun _ hf=>hf.elim)).trans (S':=fun _=>False) ⟨rfl,rfl,rfl,Nat.le_refl _,fun _ _ _=>rfl⟩ (fun _ hf=>hf.elim)
  have HKK:Hid _:=hkk
  clear hQ1 hkk hone'
  have hsv:(∃bs,h.s=ptr bs)∨h.s=.pointer none:=by
   cases hone.st with
   |live bs hs=>exact .inl ⟨bs,hs⟩
   |shut bs hs=>exact .inl ⟨bs,hs⟩
   |gone hs=>exact .inr hs
  clear hone
  rcases hsv with ⟨bs,hs⟩|hs
  ·have HBS:Hid _:=hs
   rw [hs] at hx1
   unfold ptr at hx1
   clear hs
   go_wp2_with fail
   refine (asked_at M A _ ones[i].2 ones[i].1 t h bd D S R ib V last HON.out ht bs HBS.out od Q HOP1.out HQ1.out HKI.out bp _ F H a b ca cb es vs HP1.out.book hfe (HP1.out.sep i hil)).mono ?_
   rintro e w2 hst
   obtain ⟨h1,h2,h3⟩:=HP1.out.asked hs0l i hil hst
   subst h1
   have H2:Hid _:=h2
   have H3:Hid _:=h3
   clear h2 h3 hst
   go_wp2
   go_ret
   exact ⟨rfl,H2.out,HKK.out.trans H3.out (fun _ h=>.inl h)⟩
  ·rw [hs] at hx1
   clear hs
   go_wp2
   go_ret
   exact ⟨rfl,HP.out.idle (HK0.out.trans (S':=fun _=>False) ⟨rfl,rfl,rfl,Nat.le_refl _,fun _ _ _=>rfl⟩ (fun _ h=>.inl h))⟩
theorem Tryz.infoOp:(Tryz.prog.info? 81).map (fun i=>(i.zero,i.size,i.bytes))=some (some (.agg #[.int .i64 0,.int .i64 0,.int .i64 0,.int .i64 0,.string ByteArray.empty,.string ByteArray.empty,.slice none 0 0,.slice none 0 0]),8,112):=by kernel_rfl
structure Script (w:World) (Q:Nat→Prop) (a:Option Addr) (ods:List OpD):Prop where
 each:∀i (hi:i<ods.length),∃b o,a=some ⟨b,o,none⟩∧Q b∧b<w.heap.size∧w.rangeAt b (o+i*8) ods[i].cells
 ok:∀i (hi:i<ods.length),ods[i].Ok w Q
theorem Script.kept {w w':World} {Q T:Nat→Prop} {a:Option Addr} {ods:List OpD} (h:Script w Q a ods) (k:Kept T w w') (hn:∀i,Q i→¬T i):Script w' Q a ods:=
 ⟨fun i hi=>by
  obtain ⟨b,o,h1,h2,h3,h4⟩:=h.each i hi
  exact ⟨b,o,h1,h2,Nat.lt_of_lt_of_le h3 k.size,fun j v hv=>(k.cell (a:=⟨b,o+i*8+j,none⟩) h3 (hn b h2)).trans (h4 j v hv)⟩,fun i hi=>(h.ok i hi).kept k hn⟩
def OpD.spare (o:OpD):OpD:=if o.kind=1 then {o with C:=0} else o
theorem OpD.Ok.spare {w:World} {Q:Nat→Prop} {o:OpD} (h:o.Ok w Q):o.spare.Ok w Q:=by
 unfold OpD.spare
 split
 ·exact ⟨h.kind,h.A,h.B,⟨by show (-9223372036854775808:Int)≤0;omega,by show (0:Int)≤9223372036854775807;omega⟩,h.S,h.P,h.l,h.len,h.klen,h.ks⟩
 ·exact h
structure Kinds (w:World) (kb:Nat) (kl:List Int):Prop where
 at_:w.heap[kb]? =some (.cells (kl.map (Value.int .i64)).toArray 3 (0,0))
theorem Kinds.lt {w:World} {kb:Nat} {kl:List Int} (h:Kinds w kb kl):kb<w.heap.size:=(Array.getElem?_eq_some_iff.1 h.at_).1
theorem Kinds.kept {w w':World} {T:Nat→Prop} {kb:Nat} {kl:List Int} (h:Kinds w kb kl) (k:Kept T w w') (hn:¬T kb):Kinds w' kb kl:=⟨(k.block kb h.lt hn).trans h.at_⟩
theorem Kinds.cell {w:World} {kb:Nat} {kl:List Int} (h:Kinds w kb kl) (j:Nat) (hj:j<kl.length):w.cell? ⟨kb,j,none⟩=some (.int .i64 kl[j]):=by
 rw [cell_of_row w kb j _ _ _ h.at_];simp [hj]
structure SpInv (w wr:World) (ods:List OpD) (k:Nat) (x:Value):Prop where
 kept:Kept (fun _=>False) w wr
 row:∃a c,x=.slice a k c∧wr.ownsRow 0 81 8 (.slice a k c) k (((ods.take k).map OpD.spare).map OpD.cells).flatten∧∀g,(Value.slice a k c).ownBlock=some g→w.heap.size≤g
theorem spare_snoc (ods:List OpD) (k:Nat) (h:k<ods.length):(((ods.take (k+1)).map OpD.spare).map OpD.cells).flatten=(((ods.take k).map OpD.spare).map OpD.cells).flatten++ods[k].spare.cells:=by
 rw [List.take_succ_eq_append_getElem h];simp only [List.map_append,List.map_cons,List.map_nil,List.flatten_append,List.flatten_cons,List.flatten_nil,List.append_nil]
theorem SpInv.pushed {w wr w3:World} {ods:List OpD} {k:Nat} {a1:Option Addr} {c1:Nat} (hk:k<ods.length) (hkept:Kept (fun _=>False) w wr) (hnew:∀g,(Value.slice a1 k c1).ownBlock=some g→w.heap.size≤g) (o1 o2:Obj) (g c2:Nat)
 (hown:w3.ownsRow 0 81 8 (.slice (some ⟨g,0,none⟩) (k+1) c2) (k+1) ((((ods.take k).map OpD.spare).map OpD.cells).flatten++ods[k].spare.cells)) (hgrow:((wr.alloc o1).alloc o2).grownBy w3 (Value.slice a1 k c1).ownBlock) (hat:(Value.slice a1 k c1).ownBlock=some g∨g=((wr.alloc o1).alloc o2).heap.size):
 SpInv w w3 ods (k+1) (.slice (some ⟨g,0,none⟩) (k+1) c2):=by
 have k2:Kept (fun k=>w.heap.size≤k) wr w3:=((Kept.alloc _ wr o1).trans (Kept.alloc _ _ o2) (fun _ h=>.inl h)).trans (Kept.grown (S:=fun k=>w.heap.size≤k) hgrow (fun k hk=>hnew k hk)) (fun _ h=>.inl h)
 refine ⟨hkept.trans k2 (fun k hk=>.inr hk),_,c2,rfl,by rw [spare_snoc ods k hk];exact hown,fun g' hg=>?_⟩
 simp [Value.ownBlock] at hg
 subst hg
 rcases hat with e|e
 ·exact hnew _ e
 ·have:=hkept.size;simp at e;omega
set_option maxHeartbeats 2000000 in
theorem spared_any (w:World) (Q:Nat→Prop) (a:Option Addr) (cap:Nat) (ods:List OpD) (h:Script w Q a ods) (hlen:ods.length≤1256584717449) (kb kc:Nat) (kl:List Int) (hk:Kinds w kb kl) (h8:∀k∈kl,k≠8) (hkl:kl.length≤100):
 Calls Tryz.prog 36 #[.slice a ods.length cap,.slice (some ⟨kb,0,none⟩) kl.length kc] w fun e w'=>∃x,e=.returned x∧SpInv w w' ods ods.length x:=by
 have HH:Hid _:=h
 have HK:Hid _:=hk
 have H8:Hid _:=h8
 obtain ⟨i0,hi0,hz0,hz1,hz2⟩:=info_of Tryz.infoOp
 have HI0:Hid (Tryz.prog.info? 81=some i0∧i0.zero=some (.agg #[.int .i64 0,.int .i64 0,.int .i64 0,.int .i64 0,.string ByteArray.empty,.string ByteArray.empty,.slice none 0 0,.slice none 0 0])∧i0.size=8∧i0.bytes=112):=⟨hi0,hz0,hz1,hz2⟩
 clear h hk h8 hi0 hz0 hz1 hz2
 go_enter Tryz.func36,Tryz.ntmps36
 go_wp2
 go_loop [5] (fun t=>∃j:Nat,j≤kl.length∧t=.int .i64 j) (fun t=>kl.length-(intOf t).toNat)
 case atStart=>exact ⟨0,Nat.zero_le _,rfl⟩
 case round=>
  obtain ⟨j,hj,rfl⟩:=hrel
  by_cases hlt:j<kl.length
  ·have hcj:=HK.out.cell j hlt
   have hne:(kl[j]==8)=false:=by simpa using H8.out _ (List.getElem_mem hlt)
   go_wp2
   go_round
   case rel=>exact ⟨j+1,by omega,by go_num⟩
   case measure=>simp [intOf];omega
  ·go_wp2
   go_loopw [6,7] (fun x t wr=>∃k:Nat,k≤ods.length∧t=.int .i64 k∧SpInv w wr ods k x) (fun _ t _=>ods.length-(intOf t).toNat)
   case atStart=>exact ⟨0,Nat.zero_le _,rfl,Kept.refl _ _,none,0,rfl,World.ownsRow_nil w 0 81 8,fun g hg=>by cases hg⟩
   case round=>
    obtain ⟨k,hk,rfl,hkept,a1,c1,rfl,hrow,hnew⟩:=hrel
    have HKE:Hid _:=hkept
    have HRO:Hid (wr.ownsRow 0 81 8 (.slice a1 k c1) k (((ods.take k).map OpD.spare).map OpD.cells).flatten):=hrow
    have HNE:Hid _:=hnew
    clear hkept hrow hnew
    by_cases hlt2:k<ods.length
    ·have hsc:=HH.out.kept HKE.out (fun _ _ hf=>hf)
     obtain ⟨b,o,rfl,hQb,hbl,hr⟩:=hsc.each k hlt2
     have r0:wr.cell? ⟨b,o+k*8,none⟩=some (.int .i64 ods[k].kind):=hr 0 _ rfl
     have r1:wr.cell? ⟨b,o+k*8+1,none⟩=some (.int .i64 ods[k].A):=hr 1 _ rfl
     have r2:wr.cell? ⟨b,o+k*8+2,none⟩=some (.int .i64 ods[k].B):=hr 2 _ rfl
     have r3:wr.cell? ⟨b,o+k*8+3,none⟩=some (.int .i64 ods[k].C):=hr 3 _ rfl
     have r4:wr.cell? ⟨b,o+k*8+4,none⟩=some (.string ods[k].S):=hr 4 _ rfl
     have r5:wr.cell? ⟨b,o+k*8+5,none⟩=some (.string ods[k].P):=hr 5 _ rfl
     have r6:wr.cell? ⟨b,o+k*8+6,none⟩=some (.slice ods[k].la ods[k].l.length ods[k].lc):=hr 6 _ rfl
     have r7:wr.cell? ⟨b,o+k*8+7,none⟩=some (.slice ods[k].ka ods[k].ks.length ods[k].kc):=hr 7 _ rfl
     clear hr hsc
     by_cases hk1:ods[k].kind=1
     ·have hkb:(ods[k].kind==1)=true:=by simpa using hk1
      have hsp:ods[k].spare.cells=[.int .i64 ods[k].kind,.int .i64 ods[k].A,.int .i64 ods[k].B,.int .i64 0,.string ods[k].S,.string ods[k].P,.slice ods[k].la ods[k].l.length ods[k].lc,.slice ods[k].ka ods[k].ks.length ods[k].kc]:=by
       unfold OpD.spare;rw [if_pos hk1];rfl
      have HSP:Hid _:=hsp
      clear hk1 hsp
      go_wp2_with (refine wpList_append_lies _ rfl (.tmp 35) (.tmp 37) 22 rfl 0 81 i0 _ 8 112 Tryz.underlying22 HI0.out.1 HI0.out.2.1 HI0.out.2.2.1 HI0.out.2.2.2 rfl (by omega) (.slice a1 k c1) k (((ods.take k).map OpD.spare).map OpD.cells).flatten (by rfl) (by exact World.ownsRow.alloc (World.ownsRow.alloc HRO.out _) _) ⟨wr.heap.size+1,0,none⟩ 1 1 ods[k].spare.cells (by rfl) (by rw [HSP.out];rfl) (by rw [HSP.out];exact World.news_of_block (heap_alloc2_new wr _ _)) (by rw [HSP.out];simp [Value.oneCell']) (by omega) (by unfold maxLen;omega) (by omega) (Nat.zero_le _) _ rfl ?_;intro g c2 w3 hown hgrow hat hlt3;have HX:Hid _:=SpInv.pushed hlt2 HKE.out HNE.out _ _ g c2 hown hgrow hat;clear hown hgrow hat)
      go_roundw
      case rel=>exact ⟨k+1,by omega,by go_num,HX.out⟩
      case measure=>simp [intOf];omega
     ·have hkb:(ods[k].kind==1)=false:=by simpa using hk1
      have hsp:ods[k].spare.cells=[.int .i64 ods[k].kind,.int .i64 ods[k].A,.int .i64 ods[k].B,.int .i64 ods[k].C,.string ods[k].S,.string ods[k].P,.slice ods[k].la ods[k].l.length ods[k].lc,.slice ods[k].ka ods[k].ks.length ods[k].kc]:=by
       unfold OpD.spare;rw [if_neg hk1];rfl
      have HSP:Hid _:=hsp
      clear hk1 hsp
      go_wp2_with (refine wpList_append_lies _ rfl (.tmp 35) (.tmp 37) 22 rfl 0 81 i0 _ 8 112 Tryz.underlying22 HI0.out.1 HI0.out.2.1 HI0.out.2.2.1 HI0.out.2.2.2 rfl (by omega) (.slice a1 k c1) k (((ods.take k).map OpD.spare).map OpD.cells).flatten (by rfl) (by exact World.ownsRow.alloc (World.ownsRow.alloc HRO.out _) _) ⟨wr.heap.size+1,0,none⟩ 1 1 ods[k].spare.cells (by rfl) (by rw [HSP.out];rfl) (by rw [HSP.out];exact World.news_of_block (heap_alloc2_new wr _ _)) (by rw [HSP.out];simp [Value.oneCell']) (by omega) (by unfold maxLen;omega) (by omega) (Nat.zero_le _) _ rfl ?_;intro g c2 w3 hown hgrow hat hlt3;have HX:Hid _:=SpInv.pushed hlt2 HKE.out HNE.out _ _ g c2 hown hgrow hat;clear hown hgrow hat)
      go_roundw
      case rel=>exact ⟨k+1,by omega,by go_num,HX.out⟩
      case measure=>simp [intOf];omega
    ·go_wp2
     go_ret
     have e:k=ods.length:=by omega
     subst e
     exact ⟨_,rfl,HKE.out,a1,c1,rfl,HRO.out,HNE.out⟩
theorem PlaysIn.whole {M:Meaning} {w w':World} {base bp t:Nat} {ones:List (Nat×(Nat→Prop))} {la:Option Addr} {lc:Nat} {F H:Nat→Prop} {a b:Option Addr} {ca cb:Nat} {es vs:List Ent} (p:PlaysIn M w base bp t ones la lc F H a b ca cb es vs) (hb:Book w' bp (.slice la ones.length lc) F H a b ca cb es vs) (k:Kept F w w'):PlaysIn M w' base bp t ones la lc F H a b ca cb es vs:=
 ⟨k.owns p.row (fun i hi hc=>(p.rowF i hi).1 hc),hb,fun i hi=>(p.one i hi).kept k (fun j hj hc=>(p.sep i hi j hj).1 hc),p.apart,p.sep,p.rsep,p.rowF,p.bX,p.bF,p.bH,p.bP,p.fewE,p.fewV,p.fewO⟩
theorem plays_none (M:Meaning) (w:World):Plays M (w.alloc (.cells #[.slice none 0 0,.slice none 0 0,.slice none 0 0] 79)) w.heap.size w.heap.size 0:=by
 refine ⟨[],none,0,fun _=>False,fun _=>False,none,none,0,0,[],[],World.ownsRow_nil _ _ _ _,⟨⟨heap_alloc_new w _⟩,⟨World.ownsRow_nil _ _ _ _,fun i hi=>by simp at hi,fun i hi=>by simp at hi,fun i j hi=>by simp at hi,fun i hi=>by simp at hi,fun i hi=>by simp at hi,fun k hk=>by cases hk⟩,⟨World.ownsRow_nil _ _ _ _,fun i hi=>by simp at hi,fun i hi=>by simp at hi,fun k hk=>by cases hk⟩,fun hf=>hf,fun hf=>hf,fun _ hf=>hf.elim,by simp,by simp,fun _ hf=>hf.elim,fun _ hf=>hf.elim⟩,fun i hi=>by simp at hi,fun i j hi=>by simp at hi,fun i hi=>by simp at hi,fun i hi=>by simp at hi,fun k hk=>(by cases hk),fun i hi=>by simp at hi,fun _ hf=>hf.elim,fun _ hf=>hf.elim,Nat.le_refl _,Nat.le_refl _,Nat.le_refl _,Nat.le_refl _⟩
def StepOk (M:Meaning) (kl:List Int):Prop:=∀(w:World) (base bp t:Nat) (od:OpD),Plays M w base bp t→base≤w.heap.size→t≤2199023255552→od.Ok w (fun k=>k<base)→od.kind∈kl→(od.kind=1→od.C≤0)→
 Calls Tryz.prog 37 #[.pointer (some ⟨bp,0,none⟩),.agg #[.int .i64 od.kind,.int .i64 od.A,.int .i64 od.B,.int .i64 od.C,.string od.S,.string od.P,.slice od.la od.l.length od.lc,.slice od.ka od.ks.length od.kc]] w fun e w'=>e=.returned (.bool true)∧Plays M w' base bp (t+1)∧Kept (fun k=>base≤k) w w'
def inB (kl:List Int) (j:Nat) (k:Int):Bool:=(kl.take j).any fun x=>k==x
theorem inB_snoc (kl:List Int) (j:Nat) (h:j<kl.length) (k:Int):inB kl (j+1) k=(inB kl j k||(k==kl[j])):=by
 unfold inB;rw [List.take_succ_eq_append_getElem h,List.any_append];simp
theorem inB_mem {kl:List Int} {k:Int} (h:inB kl kl.length k=true):k∈kl:=by
 unfold inB at h
 rw [List.take_length,List.any_eq_true] at h
 obtain ⟨x,hx,he⟩:=h
 have:k=x:=by simpa using he
 rw [this];exact hx
set_option maxHeartbeats 4000000 in
theorem plays_any (M:Meaning) (w:World) (Q:Nat→Prop) (hQ:∀k,Q k→k<w.heap.size) (a:Option Addr) (cap:Nat) (ods:List OpD) (h:Script w Q a ods) (hlen:ods.length≤1256584717449) (kb kc:Nat) (kl:List Int) (hk:Kinds w kb kl) (h8:∀k∈kl,k≠8) (hkl:kl.length≤100) (hstep:StepOk M kl):
 Calls Tryz.prog 13 #[.slice a ods.length cap,.slice (some ⟨kb,0,none⟩) kl.length kc] w fun e w'=>e=.returned (.bool true)∧Kept (fun _=>False) w w':=by
 have HH:Hid _:=h
 have HK:Hid _:=hk
 have H8:Hid _:=h8
 have HQ:Hid _:=hQ
 clear h hk h8 hQ
 go_enter Tryz.func13,Tryz.ntmps13
 go_wp2_with fail
 refine (spared_any _ Q a cap ods HH.out hlen kb kc kl HK.out H8.out hkl).mono ?_
 rintro e w1 ⟨x,rfl,hk1,a1,c1,rfl,hrow,hnew⟩
 have HK1:Hid _:=hk1
 have hrl:∀g,(Value.slice a1 ods.length c1).ownBlock=some g→g<w1.heap.size:=fun g hg=>(World.ownsRow.lt hrow g hg).2
 have HRL:Hid _:=hrl
 have HRO:Hid (w1.ownsRow 0 81 8 (.slice a1 ods.length c1) ods.length (((ods.take ods.length).map OpD.spare).map OpD.cells).flatten):=hrow
 have hs1:=hk1.size
 clear hk1 hrow hnew hrl
 have hpl:=plays_none M w1
 have HPL:Hid _:=hpl
 clear hpl
 have hka:=Kept.alloc (fun _=>False) w1 (.cells #[.slice none 0 0,.slice none 0 0,.slice none 0 0] 79)
 have HKA:Hid _:=hka
 clear hka
 go_wp2
 go_loopw [6] (fun t wr=>∃k:Nat,k≤ods.length∧t=.int .i64 k∧Plays M wr w1.heap.size w1.heap.size k∧Kept (fun k=>w1.heap.size≤k) w1 wr) (fun t _=>ods.length-(intOf t).toNat)
 case atStart=>exact ⟨0,Nat.zero_le _,rfl,HPL.out,HKA.out.mono (fun _ hf=>hf.elim)⟩
 case round=>
  obtain ⟨k,hk,rfl,hp,hkept⟩:=hrel
  have HP:Hid (Plays M wr w1.heap.size w1.heap.size k):=hp
  have HKE:Hid _:=hkept
  have hsr:=hkept.size
  clear hp hkept
  by_cases hlt:k<ods.length
  ·have hrow:wr.ownsRow 0 81 8 (.slice a1 ods.length c1) ods.length ((ods.map OpD.spare).map OpD.cells).flatten:=by
    have h1:=HKE.out.owns HRO.out (fun g hg hc=>by have:=HRL.out g hg;omega)
    rw [List.take_length] at h1;exact h1
   obtain ⟨g,rfl⟩:∃g,a1=some ⟨g,0,none⟩:=by
    rcases hrow.2 with ⟨h0,h1⟩|⟨g,cap',cur,hv,_⟩
    ·omega
    ·cases hv;exact ⟨g,rfl⟩
   have hl8:∀c∈(ods.map OpD.spare).map OpD.cells,c.length=8:=fun c hc=>by
    obtain ⟨o,_,rfl⟩:=List.mem_map.1 hc;rfl
   have hlm:((ods.map OpD.spare).map OpD.cells).length=ods.length:=by simp
   have hrng:=owns_range (w:=wr) (e:= 81) (c:=8) (g:=g) (cap:=c1) (l:=(ods.map OpD.spare).map OpD.cells) (by rw [hlm];exact hrow) hl8 k (by rw [hlm];exact hlt)
   have hel:((ods.map OpD.spare).map OpD.cells)[k]'(by rw [hlm];exact hlt)=ods[k].spare.cells:=by simp
   rw [hel] at hrng
   have hok:ods[k].spare.Ok wr (fun k=>k<w1.heap.size):=by
    have h1:=((HH.out.ok k hlt).spare.kept HK1.out (fun _ _ hf=>hf)).kept HKE.out (fun i hi hc=>by have:=HQ.out i hi;omega)
    exact ⟨h1.kind,h1.A,h1.B,h1.C,h1.S,h1.P,h1.l.mono (fun i hi _=>by have:=HQ.out i hi;omega),h1.len,h1.klen,fun j hj=>by
     obtain ⟨kb',ko,g1,g2,g3,g4⟩:=h1.ks j hj
     exact ⟨kb',ko,g1,by have:=HQ.out kb' g2;omega,g3,g4⟩⟩
   have hC:ods[k].spare.kind=1→ods[k].spare.C≤0:=fun h1=>by
    unfold OpD.spare at h1 ⊢
    by_cases h2:ods[k].kind=1
    ·rw [if_pos h2];exact Int.le_refl _
    ·rw [if_neg h2] at h1;exact absurd h1 h2
   have hks:=(HK.out.kept HK1.out (fun hf=>hf)).kept HKE.out (fun hc=>by have:=HK.out.lt;omega)
   generalize ods[k].spare=sk at*
   have r0:wr.cell? ⟨g,k*8,none⟩=some (.int .i64 sk.kind):=hrng 0 _ rfl
   have r1:wr.cell? ⟨g,k*8+1,none⟩=some (.int .i64 sk.A):=hrng 1 _ rfl
   have r2:wr.cell? ⟨g,k*8+2,none⟩=some (.int .i64 sk.B):=hrng 2 _ rfl
   have r3:wr.cell? ⟨g,k*8+3,none⟩=some (.int .i64 sk.C):=hrng 3 _ rfl
   have r4:wr.cell? ⟨g,k*8+4,none⟩=some (.string sk.S):=hrng 4 _ rfl
   have r5:wr.cell? ⟨g,k*8+5,none⟩=some (.string sk.P):=hrng 5 _ rfl
   have r6:wr.cell? ⟨g,k*8+6,none⟩=some (.slice sk.la sk.l.length sk.lc):=hrng 6 _ rfl
   have r7:wr.cell? ⟨g,k*8+7,none⟩=some (.slice sk.ka sk.ks.length sk.kc):=hrng 7 _ rfl
   have HOK:Hid _:=hok
   have HC:Hid _:=hC
   have HKS:Hid _:=hks
   clear hrow hl8 hlm hrng hel hok hC hks
   go_wp2
   go_loopw [7,8] (fun b t wq=>∃j:Nat,j≤kl.length∧t=.int .i64 j∧b=.bool (inB kl j sk.kind)∧∃n,wq=wr.drewN n) (fun _ t _=>kl.length-(intOf t).toNat)
   case atStart=>exact ⟨0,Nat.zero_le _,rfl,rfl,0,rfl⟩
   case round=>
    obtain ⟨j,hj,rfl,rfl,n,rfl⟩:=hrel
    by_cases hlt2:j<kl.length
    ·have hcj:=HKS.out.cell j hlt2
     have HS:Hid _:=inB_snoc kl j hlt2 sk.kind
     cases hb:inB kl j sk.kind
     ·have HB:Hid _:=hb
      clear hb
      go_wp2
      go_quiet (fail)
      go_wp2
      go_roundw
      case rel=>exact ⟨j+1,by omega,by go_num,by rw [HS.out,HB.out,Bool.false_or],_,rfl⟩
      case measure=>simp [intOf];omega
     ·have HB:Hid _:=hb
      clear hb
      go_wp2
      go_quiet (fail)
      go_wp2
      go_roundw
      case rel=>exact ⟨j+1,by omega,by go_num,by rw [HS.out,HB.out,Bool.true_or],_,rfl⟩
      case measure=>simp [intOf];omega
    ·have ej:j=kl.length:=by omega
     have hk3:Kept (fun _=>False) wr (wr.drewN n):=⟨rfl,rfl,rfl,Nat.le_refl _,fun _ _ _=>rfl⟩
     have HK3:Hid _:=hk3
     clear hk3
     cases hb:inB kl j sk.kind
     ·clear hb
      go_wp2
      obtain ⟨ones,la,lc,F,H,a2,b2,ca,cb,es,vs,hpi⟩:=HP.out
      have hid:=hpi.idle HK3.out
      go_roundw
      case rel=>exact ⟨k+1,by omega,by go_num,hid.1,HKE.out.trans hid.2 (fun _ h=>.inl h)⟩
      case measure=>simp [intOf];omega
     ·have hmem:sk.kind∈kl:=inB_mem (by rw [←ej];exact hb)
      have HME:Hid _:=hmem
      clear hb hmem ej
      obtain ⟨ones,la,lc,F,H,a2,b2,ca,cb,es,vs,hpi⟩:=HP.out
      have HP3:Hid (Plays M (wr.drewN n) w1.heap.size w1.heap.size k):=⟨ones,la,lc,F,H,a2,b2,ca,cb,es,vs,hpi.kept0 HK3.out⟩
      clear hpi
      go_wp2_with fail
      refine (hstep _ _ _ _ sk HP3.out (by exact hsr) (by omega) (by exact HOK.out.kept HK3.out (fun _ _ hf=>hf)) HME.out HC.out).mono ?_
      rintro e w5 ⟨rfl,h5,hk5⟩
      obtain ⟨ones',la',lc',F',H',a3,b3,ca',cb',es',vs',hp5⟩:=h5
      have HP5:Hid _:=hp5
      have HK5:Hid _:=hk5
      clear hp5 hk5
      go_wp2_with fail
      refine (whole_any _ _ _ F' H' a3 b3 ca' cb' es' vs' HP5.out.book).mono ?_
      rintro e w6 ⟨rfl,hb6,hk6⟩
      have HP6:Hid _:=HP5.out.whole hb6 hk6
      have HK6:Hid _:=hk6
      clear hb6 hk6
      go_wp2
      go_roundw
      case rel=>exact ⟨k+1,by omega,by go_num,⟨_,_,_,_,_,_,_,_,_,_,_,HP6.out⟩,((HKE.out.trans HK3.out (fun _ hf=>hf.elim)).trans HK5.out (fun _ h=>.inl h)).trans HK6.out (fun i hi=>.inl (HP5.out.bF i hi))⟩
      case measure=>simp [intOf];omega
  ·go_wp2
   go_ret
   exact ⟨rfl,HK1.out.trans HKE.out (fun k hk=>.inr (by omega))⟩
set_option maxHeartbeats 2000000 in
theorem step_delete (M:Meaning) (A:ApiDel M) (w:World) (base bp t:Nat) (ones:List (Nat×(Nat→Prop))) (la:Option Addr) (lc:Nat) (F H:Nat→Prop) (a b:Option Addr) (ca cb:Nat) (es vs:List Ent) (p:PlaysIn M w base bp t ones la lc F H a b ca cb es vs) (hbase:base≤w.heap.size) (ht:t≤2199023255552)
 (od:OpD) (Q:Nat→Prop) (hop:od.Ok w Q) (hQ:∀k,Q k→k<base) (hkind:od.kind=3):
 Calls Tryz.prog 37 #[.pointer (some ⟨bp,0,none⟩),.agg #[.int .i64 od.kind,.int .i64 od.A,.int .i64 od.B,.int .i64 od.C,.string od.S,.string od.P,.slice od.la od.l.length od.lc,.slice od.ka od.ks.length od.kc]] w fun e w'=>e=.returned (.bool true)∧Plays M w' base bp (t+1)∧Kept (fun k=>base≤k) w w':=by
 have k0:Kept (fun _=>False) w (w.alloc (.cells #[.int .i64 od.kind,.int .i64 od.A,.int .i64 od.B,.int .i64 od.C,.string od.S,.string od.P,.slice od.la od.l.length od.lc,.slice od.ka od.ks.length od.kc] 81)):=Kept.alloc _ _ _
 have hb0:Boxd (w.alloc (.cells #[.int .i64 od.kind,.int .i64 od.A,.int .i64 od.B,.int .i64 od.C,.string od.S,.string od.P,.slice od.la od.l.length od.lc,.slice od.ka od.ks.length od.kc] 81)) w.heap.size od:=⟨heap_alloc_new w _⟩
 have hq0:=hb0.c0.trans (congrArg (fun k=>some (Value.int .i64 k)) hkind)
 have hq0':=hb0.c0
 have hq1:=hb0.c1
 have hq2:=hb0.c2
 have hq3:=hb0.c3
 have hq4:=hb0.c4
 have hq5:=hb0.c5
 have hq6:=hb0.c6
 have hq7:=hb0.c7
 have p0:=p.kept0 k0
 have hop0:=hop.kept k0 (fun _ _ hf=>hf)
 have hs0:base≤(w.alloc (.cells #[.int .i64 od.kind,.int .i64 od.A,.int .i64 od.B,.int .i64 od.C,.string od.S,.string od.P,.slice od.la od.l.length od.lc,.slice od.ka od.ks.length od.kc] 81)).heap.size:=Nat.le_trans hbase k0.size
 have hc0:=p0.book.head.c.1
 have HP0:Hid _:=p0
 have HOP0:Hid _:=hop0
 have HB0:Hid _:=hb0
 have HK0:Hid _:=k0
 have HP:Hid _:=p
 have HQ:Hid _:=hQ
 have HS0:Hid _:=hs0
 have hfo:=p.fewO
 have HKI:Hid _:=hkind
 have hAok:=hop.A
 have HA:Hid _:=hAok
 have hfe:=p.fewE
 clear k0 hb0 p0 hop0 p hop hQ hs0 hkind hAok
 generalize hW0:w.alloc (.cells #[.int .i64 od.kind,.int .i64 od.A,.int .i64 od.B,.int .i64 od.C,.string od.S,.string od.P,.slice od.la od.l.length od.lc,.slice od.ka od.ks.length od.kc] 81)=w0 at*
 clear hq0
 have hk1:(od.kind==1)=false:=by rw [HKI.out];rfl
 have hk12:(od.kind==12)=false:=by rw [HKI.out];rfl
 have hk2:decide (od.kind<2)=false:=by rw [HKI.out];rfl
 have hk11:decide (11<od.kind)=false:=by rw [HKI.out];rfl
 have hk8:decide (8≤od.kind)=false:=by rw [HKI.out];rfl
 have hke2:(od.kind==2)=false:=by rw [HKI.out];rfl
 have hke3:(od.kind==3)=true:=by rw [HKI.out];rfl
 have hke4:(od.kind==4)=false:=by rw [HKI.out];rfl
 by_cases hz:ones.length=0
 ·have hz':((ones.length:Int)==0)=true:=by simp [hz]
  go_enter Tryz.func37,Tryz.ntmps37
  go_wp2
  go_ret
  exact ⟨rfl,HP.out.idle HK0.out⟩
 ·have hz':((ones.length:Int)==0)=false:=by simpa using hz
  obtain ⟨g,rfl⟩:=HP0.out.rowAt (by omega)
  go_enter Tryz.func37,Tryz.ntmps37
  go_wp2_with fail
  obtain ⟨i,hi0,hpk⟩:=pick_is od.A ones.length HA.out (by omega) (by omega)
  have hil:i<ones.length:=by omega
  have hri:=HP0.out.rowCell i hil
  have HPK:Hid _:=hpk
  clear hpk
  go_quiet ((go_at_call 58;exact Calls.quiet_of_same (HPK.out _)))
  obtain ⟨h,bd,D,S,R,ib,V,last,hone⟩:=HP0.out.one i hil
  have hone':=hone.kept (T:=fun _=>False) (w':=w0.drewN nq) ⟨rfl,rfl,rfl,Nat.le_refl _,fun _ _ _=>rfl⟩ (fun _ _ hf=>hf)
  have hx1:=hone.head.c1
  have HON:Hid (OneIn M (w0.drewN nq) ones[i].2 ones[i].1 t h bd D S R ib V last):=hone'
  have HP1:Hid _:=HP0.out.kept0 (w':=w0.drewN nq) ⟨rfl,rfl,rfl,Nat.le_refl _,fun _ _ _=>rfl⟩
  have HOP1:Hid _:=HOP0.out.kept (T:=fun _=>False) (w':=w0.drewN nq) ⟨rfl,rfl,rfl,Nat.le_refl _,fun _ _ _=>rfl⟩ (fun _ _ hf=>hf)
  have hs0l:base≤(w0.drewN nq).heap.size:=HS0.out
  have hQ1:∀k,Q k→¬ones[i].2 k∧k<(w0.drewN nq).heap.size:=fun k hk=>⟨fun hc=>by have:=HQ.out k hk;have:=HP0.out.bX i hil k hc;omega,by have:=HQ.out k hk;omega⟩
  have HQ1:Hid _:=hQ1
  have hkk:Kept (fun k=>base≤k) w (w0.drewN nq):=(HK0.out.mono (fun _ hf=>hf.elim)).trans (S':=fun _=>False) ⟨rfl,rfl,rfl,Nat.le_refl _,fun _ _ _=>rfl⟩ (fun _ hf=>hf.elim)
  have HKK:Hid _:=hkk
  clear hQ1 hkk hone'
  have hsv:(∃bs,h.s=ptr bs)∨h.s=.pointer none:=by
   cases hone.st with
   |live bs hs=>exact .inl ⟨bs,hs⟩
   |shut bs hs=>exact .inl ⟨bs,hs⟩
   |gone hs=>exact .inr hs
  clear hone
  rcases hsv with ⟨bs,hs⟩|hs
  ·have HBS:Hid _:=hs
   rw [hs] at hx1
   unfold ptr at hx1
   clear hs
   go_wp2_with fail
   refine (deleted_any M A _ ones[i].2 ones[i].1 t h bd D S R ib V last HON.out ht bs HBS.out od Q HOP1.out HQ1.out).mono ?_
   rintro e w2 hst
   obtain ⟨h1,h2,h3⟩:=HP1.out.stepped hs0l i hil hst
   subst h1
   have H2:Hid _:=h2
   have H3:Hid _:=h3
   clear h2 h3 hst
   go_wp2
   go_ret
   exact ⟨rfl,H2.out,HKK.out.trans H3.out (fun _ h=>.inl h)⟩
  ·rw [hs] at hx1
   clear hs
   go_wp2
   go_ret
   exact ⟨rfl,HP.out.idle (HK0.out.trans (S':=fun _=>False) ⟨rfl,rfl,rfl,Nat.le_refl _,fun _ _ _=>rfl⟩ (fun _ h=>.inl h))⟩
set_option maxHeartbeats 2000000 in
theorem step_erase (M:Meaning) (A:ApiErase M) (w:World) (base bp t:Nat) (ones:List (Nat×(Nat→Prop))) (la:Option Addr) (lc:Nat) (F H:Nat→Prop) (a b:Option Addr) (ca cb:Nat) (es vs:List Ent) (p:PlaysIn M w base bp t ones la lc F H a b ca cb es vs) (hbase:base≤w.heap.size) (ht:t≤2199023255552)
 (od:OpD) (Q:Nat→Prop) (hop:od.Ok w Q) (hQ:∀k,Q k→k<base) (hkind:od.kind=4):
 Calls Tryz.prog 37 #[.pointer (some ⟨bp,0,none⟩),.agg #[.int .i64 od.kind,.int .i64 od.A,.int .i64 od.B,.int .i64 od.C,.string od.S,.string od.P,.slice od.la od.l.length od.lc,.slice od.ka od.ks.length od.kc]] w fun e w'=>e=.returned (.bool true)∧Plays M w' base bp (t+1)∧Kept (fun k=>base≤k) w w':=by
 have k0:Kept (fun _=>False) w (w.alloc (.cells #[.int .i64 od.kind,.int .i64 od.A,.int .i64 od.B,.int .i64 od.C,.string od.S,.string od.P,.slice od.la od.l.length od.lc,.slice od.ka od.ks.length od.kc] 81)):=Kept.alloc _ _ _
 have hb0:Boxd (w.alloc (.cells #[.int .i64 od.kind,.int .i64 od.A,.int .i64 od.B,.int .i64 od.C,.string od.S,.string od.P,.slice od.la od.l.length od.lc,.slice od.ka od.ks.length od.kc] 81)) w.heap.size od:=⟨heap_alloc_new w _⟩
 have hq0:=hb0.c0.trans (congrArg (fun k=>some (Value.int .i64 k)) hkind)
 have hq0':=hb0.c0
 have hq1:=hb0.c1
 have hq2:=hb0.c2
 have hq3:=hb0.c3
 have hq4:=hb0.c4
 have hq5:=hb0.c5
 have hq6:=hb0.c6
 have hq7:=hb0.c7
 have p0:=p.kept0 k0
 have hop0:=hop.kept k0 (fun _ _ hf=>hf)
 have hs0:base≤(w.alloc (.cells #[.int .i64 od.kind,.int .i64 od.A,.int .i64 od.B,.int .i64 od.C,.string od.S,.string od.P,.slice od.la od.l.length od.lc,.slice od.ka od.ks.length od.kc] 81)).heap.size:=Nat.le_trans hbase k0.size
 have hc0:=p0.book.head.c.1
 have HP0:Hid _:=p0
 have HOP0:Hid _:=hop0
 have HB0:Hid _:=hb0
 have HK0:Hid _:=k0
 have HP:Hid _:=p
 have HQ:Hid _:=hQ
 have HS0:Hid _:=hs0
 have hfo:=p.fewO
 have HKI:Hid _:=hkind
 have hAok:=hop.A
 have HA:Hid _:=hAok
 have hfe:=p.fewE
 clear k0 hb0 p0 hop0 p hop hQ hs0 hkind hAok
 generalize hW0:w.alloc (.cells #[.int .i64 od.kind,.int .i64 od.A,.int .i64 od.B,.int .i64 od.C,.string od.S,.string od.P,.slice od.la od.l.length od.lc,.slice od.ka od.ks.length od.kc] 81)=w0 at*
 clear hq0
 have hk1:(od.kind==1)=false:=by rw [HKI.out];rfl
 have hk12:(od.kind==12)=false:=by rw [HKI.out];rfl
 have hk2:decide (od.kind<2)=false:=by rw [HKI.out];rfl
 have hk11:decide (11<od.kind)=false:=by rw [HKI.out];rfl
 have hk8:decide (8≤od.kind)=false:=by rw [HKI.out];rfl
 have hke2:(od.kind==2)=false:=by rw [HKI.out];rfl
 have hke3:(od.kind==3)=false:=by rw [HKI.out];rfl
 have hke4:(od.kind==4)=true:=by rw [HKI.out];rfl
 by_cases hz:ones.length=0
 ·have hz':((ones.length:Int)==0)=true:=by simp [hz]
  go_enter Tryz.func37,Tryz.ntmps37
  go_wp2
  go_ret
  exact ⟨rfl,HP.out.idle HK0.out⟩
 ·have hz':((ones.length:Int)==0)=false:=by simpa using hz
  obtain ⟨g,rfl⟩:=HP0.out.rowAt (by omega)
  go_enter Tryz.func37,Tryz.ntmps37
  go_wp2_with fail
  obtain ⟨i,hi0,hpk⟩:=pick_is od.A ones.length HA.out (by omega) (by omega)
  have hil:i<ones.length:=by omega
  have hri:=HP0.out.rowCell i hil
  have HPK:Hid _:=hpk
  clear hpk
  go_quiet ((go_at_call 58;exact Calls.quiet_of_same (HPK.out _)))
  obtain ⟨h,bd,D,S,R,ib,V,last,hone⟩:=HP0.out.one i hil
  have hone':=hone.kept (T:=fun _=>False) (w':=w0.drewN nq) ⟨rfl,rfl,rfl,Nat.le_refl _,fun _ _ _=>rfl⟩ (fun _ _ hf=>hf)
  have hx1:=hone.head.c1
  have HON:Hid (OneIn M (w0.drewN nq) ones[i].2 ones[i].1 t h bd D S R ib V last):=hone'
  have HP1:Hid _:=HP0.out.kept0 (w':=w0.drewN nq) ⟨rfl,rfl,rfl,Nat.le_refl _,fun _ _ _=>rfl⟩
  have HOP1:Hid _:=HOP0.out.kept (T:=fun _=>False) (w':=w0.drewN nq) ⟨rfl,rfl,rfl,Nat.le_refl _,fun _ _ _=>rfl⟩ (fun _ _ hf=>hf)
  have hs0l:base≤(w0.drewN nq).heap.size:=HS0.out
  have hQ1:∀k,Q k→¬ones[i].2 k∧k<(w0.drewN nq).heap.size:=fun k hk=>⟨fun hc=>by have:=HQ.out k hk;have:=HP0.out.bX i hil k hc;omega,by have:=HQ.out k hk;omega⟩
  have HQ1:Hid _:=hQ1
  have hkk:Kept (fun k=>base≤k) w (w0.drewN nq):=(HK0.out.mono (fun _ hf=>hf.elim)).trans (S':=fun _=>False) ⟨rfl,rfl,rfl,Nat.le_refl _,fun _ _ _=>rfl⟩ (fun _ hf=>hf.elim)
  have HKK:Hid _:=hkk
  clear hQ1 hkk hone'
  have hsv:(∃bs,h.s=ptr bs)∨h.s=.pointer none:=by
   cases hone.st with
   |live bs hs=>exact .inl ⟨bs,hs⟩
   |shut bs hs=>exact .inl ⟨bs,hs⟩
   |gone hs=>exact .inr hs
  clear hone
  rcases hsv with ⟨bs,hs⟩|hs
  ·have HBS:Hid _:=hs
   rw [hs] at hx1
   unfold ptr at hx1
   clear hs
   go_wp2_with fail
   refine (erased_any M A _ ones[i].2 ones[i].1 t h bd D S R ib V last HON.out ht bs HBS.out od Q HOP1.out HQ1.out).mono ?_
   rintro e w2 hst
   obtain ⟨h1,h2,h3⟩:=HP1.out.stepped hs0l i hil hst
   subst h1
   have H2:Hid _:=h2
   have H3:Hid _:=h3
   clear h2 h3 hst
   go_wp2
   go_ret
   exact ⟨rfl,H2.out,HKK.out.trans H3.out (fun _ h=>.inl h)⟩
  ·rw [hs] at hx1
   clear hs
   go_wp2
   go_ret
   exact ⟨rfl,HP.out.idle (HK0.out.trans (S':=fun _=>False) ⟨rfl,rfl,rfl,Nat.le_refl _,fun _ _ _=>rfl⟩ (fun _ h=>.inl h))⟩
theorem stepOk_erases (M:Meaning) (O:ApiOpen M) (P:ApiPut M) (G:ApiGet M) (A:ApiAt M) (L:ApiDel M) (E:ApiErase M) (hnd:∀f,M.Fu f→f≠0):StepOk M [1,2,5,6,3,4]:=by
 intro w base bp t od hp hbase ht hop hk hC
 obtain ⟨ones,la,lc,F,H,a,b,ca,cb,es,vs,p⟩:=hp
 simp only [List.mem_cons,List.not_mem_nil,or_false] at hk
 rcases hk with hk|hk|hk|hk|hk|hk
 ·exact step_new M O hnd w base bp t ones la lc F H a b ca cb es vs p hbase ht od _ hop (fun k hk=>hk) hk (hC hk)
 ·exact step_put M P w base bp t ones la lc F H a b ca cb es vs p hbase ht od _ hop (fun k hk=>hk) hk
 ·exact step_get M G w base bp t ones la lc F H a b ca cb es vs p hbase ht od _ hop (fun k hk=>hk) hk
 ·exact step_at M A w base bp t ones la lc F H a b ca cb es vs p hbase ht od _ hop (fun k hk=>hk) hk
 ·exact step_delete M L w base bp t ones la lc F H a b ca cb es vs p hbase ht od _ hop (fun k hk=>hk) hk
 ·exact step_erase M E w base bp t ones la lc F H a b ca cb es vs p hbase ht od _ hop (fun k hk=>hk) hk
set_option maxHeartbeats 1000000 in
theorem erases_any (M:Meaning) (O:ApiOpen M) (P:ApiPut M) (G:ApiGet M) (A:ApiAt M) (L:ApiDel M) (E:ApiErase M) (hnd:∀f,M.Fu f→f≠0) (w:World) (Q:Nat→Prop) (hQ:∀k,Q k→k<w.heap.size) (a:Option Addr) (cap:Nat) (ods:List OpD) (h:Script w Q a ods) (hlen:ods.length≤1256584717449):
 Calls Tryz.prog 4 #[.slice a ods.length cap] w fun e w'=>e=.returned (.bool true)∧Kept (fun _=>False) w w':=by
 have HH:Hid _:=h
 have HQ:Hid _:=hQ
 have HS:Hid _:=stepOk_erases M O P G A L E hnd
 clear h hQ
 go_enter Tryz.func4,Tryz.ntmps4
 go_wp2_with fail
 refine (plays_any M _ Q (fun k hk=>by have:=HQ.out k hk;simp;omega) a cap ods (HH.out.kept (Kept.alloc (fun _=>False) w _) (fun _ _ hf=>hf)) hlen w.heap.size 6 [1,2,5,6,3,4] ⟨heap_alloc_new w _⟩ (by decide) (by decide) HS.out).mono ?_
 rintro e w2 ⟨rfl,hk⟩
 have HK:Hid _:=hk
 clear hk
 go_wp2
 go_ret
 exact ⟨rfl,(Kept.alloc _ w _).trans HK.out (fun _ h=>.inl h)⟩
end Go.Proofs.YtcoengihaobddaaGreatDoor.law
